/-
  Values on an image: read back; what OverApart's world holds.
-/
import Derived.Test.YtbgnfocfnjlabaaDoorGf
import Derived.Test.YtbgnfocfnjlabaaDoorOal
set_option linter.unusedVariables false
namespace Go.Proofs.YtbgnfocfnjlabaaDoor
open Go.RowKit

/-- A value's pages on an image, one behind the other, are read as the value. -/
theorem back_plain {g id : Int} {v : Bytes} {M : Nat} {ans : Int → Int → Int × Bytes} (hM : manyP g (v.length : Int) = (M : Int)) (h1 : 1 ≤ M) (h2 : 2 ≤ id) (h3 : id + (M : Int) ≤ 16384)
    (hw : ∀ k n : Nat, 1 ≤ n → k + n ≤ M → askP ans (id + (k : Int)) (n : Int) = (0, ((encB g v (idsX id M)).flatten.drop (k * 256)).take (n * 256))) :
    (askP ans id 1).1 = 0 ∧ hdE (askP ans id 1).2 = 0 ∧ ((hdG (askP ans id 1).2 : Nat) : Int) = g ∧ vrOf ans id g v.length (askP ans id 1).2 = (v, idsX id M, true) := by
  have hok := encOk_ids (g := g) (id := id) hM h1 h2 h3
  have hpg := encB_page hok
  have hmay : mayP g (idsX id M) = true := may_ids h2 h3
  have hgs : g = 1 ∨ g = 2 ∨ g = 3 := manyP_gen fun hm => by rw [manyP_no hm] at hM; omega
  have h0 : askP ans id 1 = (0, (encB g v (idsX id M)).flatten.take 256) := by
    have := hw 0 1 (by omega) (by omega)
    simpa using this
  by_cases hg : g = 3
  · subst hg
    obtain ⟨f1, f2, f3, f4, f5, f6, f7⟩ := extE_facts hM h1
    have hL : (encB 3 v (idsX id M)).flatten = extE v M := by unfold encB; rw [if_pos rfl, idsX_len]; exact extB_flat f1
    rw [hL] at hw h0
    rw [h0]
    refine ⟨rfl, f5, by simp only [f6]; rfl, ?_⟩
    unfold vrOf
    rw [if_neg (show ¬ sgl 3 = true by decide), hM, Int.toNat_natCast]
    refine ext_back hM h1 hmay fun h2 => ?_
    have := hw 1 (M - 1) (by omega) (by omega)
    rw [show id + ((1 : Nat) : Int) = id + 1 from rfl, show ((M - 1 : Nat) : Int) = (M : Int) - 1 by omega] at this
    rw [this, Nat.one_mul]
    congr 1
    exact List.take_of_length_le (by rw [List.length_drop, f1]; omega)
  · obtain ⟨n, rfl⟩ : ∃ n : Nat, g = (n : Int) := ⟨g.toNat, by omega⟩
    have hn : n = 1 ∨ n = 2 := by omega
    obtain ⟨m, hm⟩ : ∃ m : Nat, (tr (n : Int) 248 240 240).toNat = m := ⟨_, rfl⟩
    have hm' : (m : Int) = tr (n : Int) 248 240 240 := by rw [← hm]; rcases hn with rfl | rfl <;> rfl
    have hL : encB n v (idsX id M) = linksB n v m (idsX id M) (List.range M) := by unfold encB; rw [if_neg hg, idsX_len, hm]
    rw [hL] at hw h0 hpg
    have hLk : ∀ k, k < M → (linksB n v m (idsX id M) (List.range M))[k]? = some (linkB n v m (idsX id M) k k) := fun k hk => by rw [linksB_range, List.getElem?_map, List.getElem?_range hk]; rfl
    have hwin : ∀ k, k < M → ((linksB n v m (idsX id M) (List.range M)).flatten.drop (k * 256)).take 256 = linkB n v m (idsX id M) k k := fun k hk => flat_page hpg (hLk k hk)
    have hf := hwin 0 (by omega)
    rw [Nat.zero_mul, List.drop_zero] at hf
    rw [hf] at h0
    have hids : idsX id M = id :: (idsX id M).drop 1 := by
      have e : (idsX id M)[0]? = some (id + ((0 : Nat) : Int)) := idsX_get.2 ⟨by omega, rfl⟩
      cases hx : idsX id M with
      | nil => rw [hx] at e; cases e
      | cons y ys => rw [hx] at e; simp at e; simp [e]
    obtain ⟨l, hl⟩ : ∃ l, l = (idsX id M).drop 1 := ⟨_, rfl⟩
    rw [← hl] at hids
    have hll : l.length = M - 1 := by rw [hl, List.length_drop, idsX_len]
    have ha : ∀ k x, (id :: l)[k]? = some x → askP ans x 1 = (0, linkB n v m (id :: l) k k) := fun k x hx => by
      rw [← hids] at hx ⊢
      obtain ⟨h3, rfl⟩ := idsX_get.1 hx
      rw [← hwin k h3]
      exact hw k 1 (by omega) (by omega)
    rw [hids] at h0 hok
    have hs := (link_shape (g := n) (v := v) (l := id :: l) (k := 0) (j := 0) hn hm' (mayP_bound (by rw [← hids]; exact hmay))).1.facts
    rw [h0, hids]
    refine ⟨rfl, hs.2.2.2.1, by simp only [hs.2.2.1], ?_⟩
    unfold vrOf
    rw [if_pos (show sgl (n : Int) = true by unfold sgl; rw [decide_eq_true_eq]; omega), hM, Int.toNat_natCast, hm, ← hll]
    exact chain_back hn hm' hok ha
/-- A value is read back from an image. -/
def BackOk (img : Bytes) (id g : Int) (v : Bytes) (M : Nat) : Prop := (askP (imgA img) id 1).1 = 0 ∧ hdE (askP (imgA img) id 1).2 = 0 ∧ ((hdG (askP (imgA img) id 1).2 : Nat) : Int) = g ∧ vrOf (imgA img) id g v.length (askP (imgA img) id 1).2 = (v, idsX id M, true)
theorem apart_plain {g h : Int} {v0 v1 E0 E1 img : Bytes} {M0 M1 D : Nat} (hM0 : manyP g (v0.length : Int) = (M0 : Int)) (hM1 : manyP h (v1.length : Int) = (M1 : Int)) (h0 : 1 ≤ M0) (h1 : 1 ≤ M1) (hD : D = 3 + M0)
    (hE0 : E0 = (encB g v0 (idsX 3 M0)).flatten) (hE1 : E1 = (encB h v1 (idsX (D : Int) M1)).flatten) (himg : img = splB (splB (List.replicate 7680 0) 768 E0) (D * 256) E1) :
    img.length = 7680 ∧ BackOk img 3 g v0 M0 ∧ BackOk img D h v1 M1 := by
  have h7 := manyP_7 hM0
  have h7' := manyP_7 hM1
  have l0 : E0.length = M0 * 256 := by rw [hE0, pgs_flat (encB_page (encOk_ids hM0 h0 (by omega) (by omega))), encB_len, idsX_len]
  have l1 : E1.length = M1 * 256 := by rw [hE1, pgs_flat (encB_page (encOk_ids hM1 h1 (by omega) (by omega))), encB_len, idsX_len]
  have z0 : (splB (List.replicate 7680 0) 768 E0).length = 7680 := by rw [splB_len (by rw [List.length_replicate]; omega), List.length_replicate]
  have hl : img.length = 7680 := by rw [himg, splB_len (by rw [z0]; omega), z0]
  refine ⟨hl, back_plain hM0 h0 (by omega) (by omega) fun k n hn hk => ?_, back_plain hM1 h1 (by omega) (by omega) fun k n hn hk => ?_⟩
  · have := askP_img (img := img) (i := 3 + k) (n := n) (by rw [hl]; omega)
    rw [show (((3 + k : Nat)) : Int) = 3 + (k : Int) by omega] at this
    rw [this, himg, splB_out (by rw [z0]; omega) (by omega), splB_in (by rw [List.length_replicate]; omega) (by omega) (by omega), show (3 + k) * 256 - 768 = k * 256 by omega, hE0]
  · have := askP_img (img := img) (i := D + k) (n := n) (by rw [hl]; omega)
    rw [show (((D + k : Nat)) : Int) = (D : Int) + (k : Int) by omega] at this
    rw [this, himg, splB_in (by rw [z0]; omega) (by omega) (by omega), show (D + k) * 256 - D * 256 = k * 256 by omega, hE1]
theorem rdj_more {w : World} {n₀ tb n c : Nat} {A : Option Addr} {img : Bytes} {kk : Int} {s : List (Int × Int)} (hT : Blk w tb 3 [.int .i64 kk]) (hk : I64 kk) (hs : s.length ≤ 1000000 → kk = s.length) (hS : Src w (.slice A n c) img) (hA : ∀ ad, A = some ad → ad.block ≠ tb ∧ ad.block < w.heap.size) (hn : w.heap.size + 2 ≤ n₀) :
    RdJ n₀ tb (w.heap.size + 1) w.heap.size A n c img s ((w.alloc (.cells #[.slice A n c] 27)).alloc (.cells #[.pointer (some ⟨tb, 0, none⟩)] 35)) := by
  have ho : Only (w.heap.size ≤ ·) w ((w.alloc (.cells #[.slice A n c] 27)).alloc (.cells #[.pointer (some ⟨tb, 0, none⟩)] 35)) := ((Only.refl _ w).alloc (fun _ h => h) _).alloc (fun _ h => h) _
  refine ⟨kk, ?_, (Blk.new w 27 _).alloc _, hT.later ho, hk, hs, hS.later ho, fun ad e => ⟨by have := (hA ad e).2; omega, (hA ad e).1⟩⟩
  have := Blk.new (w.alloc (.cells #[.slice A n c] 27)) 35 [.pointer (some ⟨tb, 0, none⟩)]
  simpa using this
/-- How often was asked. -/
def CntJ (tb : Nat) (W : World) : Prop := ∃ (kk : Int) (s : List (Int × Int)), Blk W tb 3 [.int .i64 kk] ∧ I64 kk ∧ (s.length ≤ 1000000 → kk = s.length)
theorem CntJ.later {tb : Nat} {W W' : World} (h : CntJ tb W) (ho : Only (W.heap.size ≤ ·) W W') : CntJ tb W' := by
  obtain ⟨kk, s, h1, h2, h3⟩ := h
  exact ⟨kk, s, h1.later ho, h2, h3⟩
/-- A value is read back, through the law's reader. -/
theorem read_back {w9 w10 : World} {tb N cap gi M sz : Nat} {T v : Bytes} {g id : Int} (hG : Gens w9) (hw10 : w10 = (w9.alloc (.cells #[.slice (some ⟨gi, 0, none⟩) N cap] 27)).alloc (.cells #[.pointer (some ⟨tb, 0, none⟩)] 35))
    (hT : CntJ tb w9) (hS : Src w9 (.slice (some ⟨gi, 0, none⟩) N cap) T) (hgt : gi ≠ tb) (hgi : gi < w9.heap.size) (hgb : 1 ≠ tb) (hl : T.length ≤ 1000000) (hid : 0 ≤ id ∧ id ≤ 1000000) (hm : manyP g (v.length : Int) ≠ 0) (hsz : sz = v.length) (hb : BackOk T id g v M) :
    Calls Tryd.prog 12 #[.func (.func 30) #[] #[.pointer (some ⟨w9.heap.size + 1, 0, none⟩), .pointer (some ⟨w9.heap.size, 0, none⟩)], .int .i64 id, .int .i64 (sz : Nat)] w10 fun e w' => ∃ x IA ic, e = .returned (.tuple #[.int .i64 g, x, .slice IA M ic, .int .i64 0]) ∧ Src w' x v ∧ CntJ tb w' ∧ Only (fun k => k = tb ∨ w9.heap.size ≤ k) w9 w' := by
  subst hsz
  obtain ⟨b1, b2, b3, b4⟩ := hb
  obtain ⟨kk, s, t1, t2, t3⟩ := hT
  have hg1 := hG.1
  have htl := t1.lt
  have hsz : w10.heap.size = w9.heap.size + 2 := by rw [hw10]; simp
  have ho10 : Only (w9.heap.size ≤ ·) w9 w10 := by rw [hw10]; exact ((Only.refl _ w9).alloc (fun _ h => h) _).alloc (fun _ h => h) _
  have R := imgR (n₀ := w9.heap.size + 2) (tb := tb) (pb := w9.heap.size + 1) (ib := w9.heap.size) (n := N) (c := cap) (A := some ⟨gi, 0, none⟩) (img := T) (by omega) (by omega) (by omega) (by omega) (by omega) (by omega) hgb hl
  have hJ := rdj_more (n₀ := w9.heap.size + 2) t1 t2 t3 hS (fun ad e => by cases e; exact ⟨hgt, hgi⟩) (Nat.le_refl _)
  rw [← hw10] at hJ
  refine (ODecode_c R s w10 id v.length hJ (by omega) (hG.later ho10) (fun _ => hid)).mono fun e w' h => ?_
  have d := h.2.2 b1 b2 (by rw [b3]; exact hm)
  rw [b3, Int.toNat_natCast, b4, if_pos rfl] at d
  obtain ⟨x, i, he, hx, hi, hJ', ho⟩ := d
  obtain ⟨IA, ic, rfl, _⟩ := hi
  obtain ⟨kk', _, _, t1', t2', t3', _⟩ := hJ'
  refine ⟨x, IA, ic, by rw [he, idsX_len], hx, ⟨kk', _, t1', t2', t3'⟩, (ho10.mono fun k hk => Or.inr hk).trans (ho.mono fun k hk => ?_)⟩
  rcases hk with hk | hk
  · exact Or.inl hk
  · exact Or.inr (by omega)
/-- What OverApart's world holds. -/
structure ApW (w : World) (P : List Value) (gi : Nat) (img : Bytes) (I0 I1 : Value) (k0 k1 : Nat) (d0 d1 : Int) (W : World) : Prop where
  only : Only (w.heap.size ≤ ·) w W
  lt : w.heap.size < gi
  box : Blk W w.heap.size 48 P
  im : Blk W gi 5 (cb img)
  ids : Blk W (gi + 1) 49 [I0, I1]
  r0 : W.ownsRow (gi + 2) 3 1 I0 k0 (ci (idsX d0 k0))
  r1 : W.ownsRow (gi + 2) 3 1 I1 k1 (ci (idsX d1 k1))
  apart : ∀ b, I0.ownBlock = some b → I1.ownBlock ≠ some b
section
variable {w : World} {P : List Value} {gi : Nat} {img : Bytes} {I0 I1 : Value} {k0 k1 : Nat} {d0 d1 : Int} {W W' : World}
theorem ApW.later (h : ApW w P gi img I0 I1 k0 k1 d0 d1 W) (ho : Only (W.heap.size ≤ ·) W W') : ApW w P gi img I0 I1 k0 k1 d0 d1 W' where
  only := on_new h.only ho
  lt := h.lt
  box := h.box.later ho
  im := h.im.later ho
  ids := h.ids.later ho
  r0 := ids_keep h.r0 ho fun k e => by have := (World.ownsRow.lt h.r0 k e).2; omega
  r1 := ids_keep h.r1 ho fun k e => by have := (World.ownsRow.lt h.r1 k e).2; omega
  apart := h.apart
theorem ApW.upto {F : Nat → Prop} (h : ApW w P gi img I0 I1 k0 k1 d0 d1 W) (ho : Only F W W') (hF : ∀ k, F k → W.heap.size ≤ k) : ApW w P gi img I0 I1 k0 k1 d0 d1 W' := h.later (ho.mono hF)
theorem ApW.gi_lt (h : ApW w P gi img I0 I1 k0 k1 d0 d1 W) : gi + 1 < W.heap.size := h.ids.lt
/-- A number more in the first row. -/
theorem ApW.push0 {v' : Value} (h : ApW w P gi img I0 I1 k0 k1 d0 d1 W) (ho' : W'.ownsRow (gi + 2) 3 1 v' (k0 + 1) (ci (idsX d0 (k0 + 1)))) (hg' : W.grownBy W' I0.ownBlock) (hat : v'.ownBlock = I0.ownBlock ∨ v'.ownBlock = some W.heap.size) :
    ApW w P gi img v' I1 (k0 + 1) k1 d0 d1 (W'.setCell ⟨gi + 1, 0, none⟩ v') := by
  have hgi := h.gi_lt
  have hlt := h.lt
  have hO : Only (fun k => I0.ownBlock = some k ∨ W.heap.size ≤ k) W W' := (Only.refl _ W).grown hg' (fun k hk => Or.inr hk) (fun k hk => Or.inl hk)
  have hO2 : Only (fun k => k = gi + 1 ∨ I0.ownBlock = some k ∨ W.heap.size ≤ k) W (W'.setCell ⟨gi + 1, 0, none⟩ v') := (hO.mono (G := fun k => k = gi + 1 ∨ I0.ownBlock = some k ∨ W.heap.size ≤ k) fun k hk => Or.inr hk).setCell (p := ⟨gi + 1, 0, none⟩) (Or.inl rfl) _
  have hr0 : ∀ k, I0.ownBlock = some k → gi + 2 ≤ k ∧ k < W.heap.size := fun k e => World.ownsRow.lt h.r0 k e
  have hr1 : ∀ k, I1.ownBlock = some k → gi + 2 ≤ k ∧ k < W.heap.size := fun k e => World.ownsRow.lt h.r1 k e
  have hv : ∀ k, v'.ownBlock = some k → gi + 2 ≤ k := fun k e => (World.ownsRow.lt ho' k e).1
  refine ⟨h.only.trans (hO2.mono fun k hk => ?_), hlt, h.box.only hO2 fun hk => ?_, h.im.only hO2 fun hk => ?_, ?_, ?_, ?_, fun b e => ?_⟩
  · have hws := h.only.size
    rcases hk with hk | hk | hk
    · omega
    · have := hr0 k hk; omega
    · omega
  · rcases hk with hk | hk | hk
    · omega
    · have := hr0 _ hk; omega
    · omega
  · rcases hk with hk | hk | hk
    · omega
    · have := hr0 _ hk; omega
    · omega
  · exact (h.ids.only hO fun hk => by
      rcases hk with hk | hk
      · have := hr0 _ hk; omega
      · omega).set_ 0 _
  · exact ids_keep ho' ((Only.refl (· = gi + 1) W').setCell (p := ⟨gi + 1, 0, none⟩) rfl _) fun k e => by have := hv k e; omega
  · exact ids_keep h.r1 hO2 fun k e => fun hk => by
      have h1 := hr1 k e
      rcases hk with hk | hk | hk
      · omega
      · exact h.apart k hk e
      · omega
  · rcases hat with h1 | h1
    · exact h.apart b (h1.symm.trans e)
    · intro e1
      have h2 := hr1 b e1
      have h3 := Option.some.inj (h1.symm.trans e)
      omega
/-- A number more in the second row. -/
theorem ApW.push1 {v' : Value} (h : ApW w P gi img I0 I1 k0 k1 d0 d1 W) (ho' : W'.ownsRow (gi + 2) 3 1 v' (k1 + 1) (ci (idsX d1 (k1 + 1)))) (hg' : W.grownBy W' I1.ownBlock) (hat : v'.ownBlock = I1.ownBlock ∨ v'.ownBlock = some W.heap.size) :
    ApW w P gi img I0 v' k0 (k1 + 1) d0 d1 (W'.setCell ⟨gi + 1, 1, none⟩ v') := by
  have hgi := h.gi_lt
  have hlt := h.lt
  have hO : Only (fun k => I1.ownBlock = some k ∨ W.heap.size ≤ k) W W' := (Only.refl _ W).grown hg' (fun k hk => Or.inr hk) (fun k hk => Or.inl hk)
  have hO2 : Only (fun k => k = gi + 1 ∨ I1.ownBlock = some k ∨ W.heap.size ≤ k) W (W'.setCell ⟨gi + 1, 1, none⟩ v') := (hO.mono (G := fun k => k = gi + 1 ∨ I1.ownBlock = some k ∨ W.heap.size ≤ k) fun k hk => Or.inr hk).setCell (p := ⟨gi + 1, 1, none⟩) (Or.inl rfl) _
  have hr0 : ∀ k, I0.ownBlock = some k → gi + 2 ≤ k ∧ k < W.heap.size := fun k e => World.ownsRow.lt h.r0 k e
  have hr1 : ∀ k, I1.ownBlock = some k → gi + 2 ≤ k ∧ k < W.heap.size := fun k e => World.ownsRow.lt h.r1 k e
  have hv : ∀ k, v'.ownBlock = some k → gi + 2 ≤ k := fun k e => (World.ownsRow.lt ho' k e).1
  refine ⟨h.only.trans (hO2.mono fun k hk => ?_), hlt, h.box.only hO2 fun hk => ?_, h.im.only hO2 fun hk => ?_, ?_, ?_, ?_, fun b e => ?_⟩
  · have hws := h.only.size
    rcases hk with hk | hk | hk
    · omega
    · have := hr1 k hk; omega
    · omega
  · rcases hk with hk | hk | hk
    · omega
    · have := hr1 _ hk; omega
    · omega
  · rcases hk with hk | hk | hk
    · omega
    · have := hr1 _ hk; omega
    · omega
  · exact (h.ids.only hO fun hk => by
      rcases hk with hk | hk
      · have := hr1 _ hk; omega
      · omega).set_ 1 _
  · exact ids_keep h.r0 hO2 fun k e => fun hk => by
      have h1 := hr0 k e
      rcases hk with hk | hk | hk
      · omega
      · exact h.apart k e hk
      · omega
  · exact ids_keep ho' ((Only.refl (· = gi + 1) W').setCell (p := ⟨gi + 1, 1, none⟩) rfl _) fun k e => by have := hv k e; omega
  · rcases hat with h1 | h1
    · rw [h1]; exact h.apart b e
    · intro e1
      have h2 := hr0 b e
      have h3 := Option.some.inj (h1.symm.trans e1)
      omega
/-- The image is written. -/
theorem ApW.write {img' : Bytes} (h : ApW w P gi img I0 I1 k0 k1 d0 d1 W) (ho : Only (· = gi) W W') (hb : Blk W' gi 5 (cb img')) : ApW w P gi img' I0 I1 k0 k1 d0 d1 W' where
  only := h.only.trans (ho.mono fun k hk => by have := h.lt; omega)
  lt := h.lt
  box := h.box.only ho (by have := h.lt; omega)
  im := hb
  ids := h.ids.only ho (by omega)
  r0 := ids_keep h.r0 ho fun k e => by have := (World.ownsRow.lt h.r0 k e).1; omega
  r1 := ids_keep h.r1 ho fun k e => by have := (World.ownsRow.lt h.r1 k e).1; omega
  apart := h.apart
end
theorem ApW.past {w : World} {P : List Value} {gi tb : Nat} {img : Bytes} {I0 I1 : Value} {k0 k1 : Nat} {d0 d1 : Int} {W W' : World} (h : ApW w P gi img I0 I1 k0 k1 d0 d1 W) (ho : Only (fun k => k = tb ∨ W.heap.size ≤ k) W W') (h1 : gi + 1 < tb) (h2 : ∀ b, I0.ownBlock = some b → b < tb) (h3 : ∀ b, I1.ownBlock = some b → b < tb) : ApW w P gi img I0 I1 k0 k1 d0 d1 W' where
  only := h.only.trans (ho.mono fun k hk => by have := h.only.size; have := h.lt; omega)
  lt := h.lt
  box := h.box.only ho (by have := h.lt; have := h.gi_lt; omega)
  im := h.im.only ho (by have := h.gi_lt; omega)
  ids := h.ids.only ho (by have := h.gi_lt; omega)
  r0 := ids_keep h.r0 ho fun k e => by have := (World.ownsRow.lt h.r0 k e).2; have := h2 k e; omega
  r1 := ids_keep h.r1 ho fun k e => by have := (World.ownsRow.lt h.r1 k e).2; have := h3 k e; omega
  apart := h.apart
theorem enc_facts {g id : Int} {A : Option Addr} {n c M : Nat} {v : Bytes} {w : World} (hq : manyP g n = (M : Int)) (hm : 1 ≤ M) (hv : Src w (.slice A n c) v) (h2 : 2 ≤ id) (h3 : id + (M : Int) ≤ 16384) :
    (∀ x ∈ encB g v (idsX id M), x.length = 256) ∧ (encB g v (idsX id M)).length = M ∧ (encB g v (idsX id M)).flatten.length = M * 256 ∧ n = v.length ∧ ∀ W UA uc, Gens W → Src W (.slice A n c) v → Ints W (.slice UA M uc) (idsX id M) → Calls Tryd.prog 17 #[.int .i64 g, .slice A n c, .slice UA M uc] W fun e w' => ∃ r, e = .returned (.tuple #[r, .int .i64 0]) ∧ Pgs W.heap.size w' r (encB g v (idsX id M)) ∧ Only (W.heap.size ≤ ·) W w' := by
  have hn : n = v.length := by
    obtain ⟨A', c', e, _⟩ := hv
    simp only [Value.slice.injEq] at e
    exact e.2.1
  have hok := encOk_ids hq hm h2 h3
  have hpg := encB_page (v := v) (by rw [← hn]; exact hok)
  have hl : (encB g v (idsX id M)).length = M := by rw [encB_len, idsX_len]
  exact ⟨hpg, hl, by rw [pgs_flat hpg, hl], hn, fun W UA uc hG hs hu => OEncode_all hG hs hu hok⟩
theorem ap_b1 {M : Nat} (h : M ≤ 7) : (3 : Int) + (M : Int) ≤ 16384 := by omega
theorem ap_b2 {D M : Nat} (h : D = 3 + M) : (2 : Int) ≤ (D : Int) := by omega
theorem ap_b3 {D M N : Nat} (h : D = 3 + M) (h1 : M ≤ 7) (h2 : N ≤ 7) : (D : Int) + (N : Int) ≤ 16384 := by omega
theorem ap_k3 {k : Nat} (h : k ≤ 2) : k = 0 ∨ k = 1 ∨ k = 2 := by omega
/-- The image behind k values. -/
def imK (Z J1 J2 : Bytes) : Nat → Bytes
  | 0 => Z
  | 1 => J1
  | _ => J2
theorem img_fits {Z J1 E0 E1 : Bytes} {M0 M1 D B : Nat} (hZ : Z = List.replicate 7680 0) (hD : D = 3 + M0) (hB : B = D * 256) (h7 : M0 ≤ 7) (h7' : M1 ≤ 7) (hJ1 : J1 = splB Z 768 E0) (l0 : E0.length = M0 * 256) (l1 : E1.length = M1 * 256) :
    768 + E0.length ≤ Z.length ∧ E0.length ≤ 6912 ∧ B + E1.length ≤ J1.length ∧ E1.length ≤ 7680 - B ∧ IntKind.i64.wrap ((D : Int) * 256) = (B : Int) ∧ (B : Int) ≤ 7680 ∧ B ≤ 7680 ∧ Z.length = 7680 ∧ J1.length = 7680 ∧ (0 : Int) ≤ (B : Int) ∧ ¬ 7680 = B := by
  have z : Z.length = 7680 := by rw [hZ, List.length_replicate]
  have j : J1.length = 7680 := by rw [hJ1, splB_len (by omega), z]
  refine ⟨by omega, by omega, by omega, by omega, ?_, by omega, by omega, z, j, by omega, by omega⟩
  rw [IntWalk.i64_in _ (by omega)]
  omega
theorem wr64 (x : Int) (h0 : 0 ≤ x) (h1 : x < 1000000) : IntKind.i64.wrap x = x := IntWalk.i64_in _ (by omega)
theorem ci_succ (d : Int) (k : Nat) : ci (idsX d (k + 1)) = ci (idsX d k) ++ [.int .i64 (d + (k : Int))] := by
  rw [idsX_succ]
  unfold ci
  rw [List.map_append]
  rfl
theorem ids_first {W : World} {B x n c M : Nat} {d : Int} (h : W.ownsRow B 3 1 (.slice (some ⟨x, 0, none⟩) n c) n (ci (idsX d M))) (hn : 1 ≤ n) (hM : 1 ≤ M) : W.cell? ⟨x, 0, none⟩ = some (.int .i64 d) := by
  rw [h.cellAt 0 (by omega)]
  unfold ci
  rw [List.getElem?_map, idsX_get.2 ⟨by omega, rfl⟩]
  simp
/-- The rows of numbers are there ahead of the store. -/
theorem ApW.mid {w : World} {P : List Value} {gi : Nat} {img : Bytes} {I0 I1 : Value} {k0 k1 : Nat} {d0 d1 : Int} {W W' : World} {r : Option Nat} (h : ApW w P gi img I0 I1 k0 k1 d0 d1 W) (hr : r = I0.ownBlock ∨ r = I1.ownBlock) (hg' : W.grownBy W' r) : Blk W' (gi + 1) 49 [I0, I1] := by
  have hgi := h.gi_lt
  have hO : Only (fun k => r = some k ∨ W.heap.size ≤ k) W W' := (Only.refl _ W).grown hg' (fun k hk => Or.inr hk) (fun k hk => Or.inl hk)
  refine h.ids.only hO fun hk => ?_
  rcases hk with hk | hk
  · rcases hr with rfl | rfl
    · have := (World.ownsRow.lt h.r0 _ hk).1; omega
    · have := (World.ownsRow.lt h.r1 _ hk).1; omega
  · omega
theorem ApW.start {w W wq : World} {P : List Value} {d0 d1 : Int} {ZZ : Array Value} {n : Nat} (hZZ : ZZ = (List.replicate n z8).toArray) (ho : Only (w.heap.size ≤ ·) w W) (hb : Blk W w.heap.size 48 P) (hwq : wq = (W.alloc (.cells ZZ 5)).alloc (.cells #[.slice none 0 0, .slice none 0 0] 49)) :
    ApW w P W.heap.size (List.replicate n 0) (.slice none 0 0) (.slice none 0 0) 0 0 d0 d1 wq := by
  subst hwq hZZ
  have hc : cb (List.replicate n 0) = List.replicate n z8 := by unfold cb; rw [List.map_replicate]; rfl
  have hs : (W.alloc (.cells (List.replicate n z8).toArray 5)).heap.size = W.heap.size + 1 := by simp
  refine ⟨(ho.alloc (fun k hk => hk) _).alloc (fun k hk => hk) _, hb.lt, (hb.alloc _).alloc _, ?_, ?_, World.ownsRow_nil _ _ _ _, World.ownsRow_nil _ _ _ _, fun b e => by cases e⟩
  · rw [hc]; exact (Blk.new W 5 _).alloc _
  · rw [← hs]; exact Blk.new _ 49 _
theorem cb_splB (s x : Bytes) (a : Nat) : splice (cb s) a (cb x) = cb (splB s a x) := by
  unfold splice splB
  rw [cb_append, cb_append, cb_take, cb_drop, cb_length]
/-- Bytes copied over others. -/
theorem wp_copy_over {w : World} {o : Oper} {a : Act} {K : Act → World → Prop} {Q : Exit → Act → World → Prop} (d s : Operand)
    (ho : o.op = .call { callee := .builtin .copy, args := #[d, s], argTypes := #[27, 27] }) (g off dLen dCap : Nat) (ad : Addr) (n sCap : Nat) (hd : a.eval d = .slice (some ⟨g, off, none⟩) dLen dCap) (hs : a.eval s = .slice (some ad) n sCap) (X Y : Bytes) (hnY : n = Y.length)
    (hg : Blk w g 5 (cb X)) (hY : Src w (.slice (some ad) n sCap) Y) (hfit : off + Y.length ≤ X.length) (hn : Y.length ≤ dLen)
    (h : ∀ w', Blk w' g 5 (cb (splB X off Y)) → Only (· = g) w w' → K (a.put o.dst (goInt (n : Nat))) w') : o.wp Tryd.prog a w K Q := by
  subst hnY
  have hlen : (cb Y).length = Y.length := cb_length Y
  have hsrc : ∀ j v, (cb Y)[j]? = some v → w.cell? (ad.add j) = some v := by
    obtain ⟨A', c', e, ht, _⟩ := hY
    simp only [Value.slice.injEq] at e
    obtain ⟨rfl, _, _⟩ := e
    exact fun j v hv => ht.src ad rfl j v hv
  have hrun := run_copy_row (P := Tryd.prog) w 27 27 o.type 5 g off dLen dCap ad Y.length sCap (cb X).toArray 5 (cb Y) Tryd.underlying27 size8 hg (by rw [hlen]; exact (Nat.min_eq_left hn).symm) hsrc (by simp [cb_length]; exact hfit) (cb_one _)
  unfold Oper.wp
  simp [execOp, ho, resolve, invoke, builtin, hd, hs, hrun, Result.andThen]
  rw [cb_length]
  refine h _ ?_ ⟨rfl, rfl, rfl, by simp [World.setRow], fun k hk => setRow_other w g k _ hk⟩
  have := setRow_heap w g (cb X).toArray ((cb X).take off ++ (cb Y ++ (cb X).drop (off + (cb Y).length))).toArray 5 (0, 0) hg
  rw [← cb_splB]
  unfold splice
  unfold Blk
  simpa [cb_length] using this
theorem blk_src {w : World} {g n : Nat} {X : Bytes} (h : Blk w g 5 (cb X)) (hn : X.length = n) (hm : n ≤ 65536) : Src w (.slice (some ⟨g, 0, none⟩) n n) X := by
  subst hn
  refine ⟨_, X.length, rfl, ⟨rfl, fun _ => ⟨_, rfl, fun j u hu => ?_⟩⟩, (fun e => by cases e), Nat.le_refl _, by omega⟩
  rw [show (⟨g, 0, none⟩ : Addr).add j = ⟨g, j, none⟩ by rw [Addr.add_mid, Nat.zero_add], h.cell]
  exact hu
theorem ap_read {w W Wa : World} {P : List Value} {gi tb x0 x1 i0 i1 M0 M1 M sz : Nat} {img v : Bytes} {d0 d1 g id : Int} (h : ApW w P gi img (.slice (some ⟨x0, 0, none⟩) M0 i0) (.slice (some ⟨x1, 0, none⟩) M1 i1) M0 M1 d0 d1 W) (hG : Gens w) (hc : CntJ tb W)
    (hw : Wa = (W.alloc (.cells #[.slice (some ⟨gi, 0, none⟩) 7680 7680] 27)).alloc (.cells #[.pointer (some ⟨tb, 0, none⟩)] 35)) (ht : gi + 1 < tb ∧ x0 < tb ∧ x1 < tb ∧ 1 ≠ tb) (hl : img.length = 7680) (hid : 0 ≤ id ∧ id ≤ 1000000) (hm : manyP g (v.length : Int) ≠ 0) (hsz : sz = v.length) (hb : BackOk img id g v M) :
    Calls Tryd.prog 12 #[.func (.func 30) #[] #[.pointer (some ⟨W.heap.size + 1, 0, none⟩), .pointer (some ⟨W.heap.size, 0, none⟩)], .int .i64 id, .int .i64 (sz : Nat)] Wa fun e w' => ∃ x IA ic, e = .returned (.tuple #[.int .i64 g, x, .slice IA M ic, .int .i64 0]) ∧ Src w' x v ∧ CntJ tb w' ∧ ApW w P gi img (.slice (some ⟨x0, 0, none⟩) M0 i0) (.slice (some ⟨x1, 0, none⟩) M1 i1) M0 M1 d0 d1 w' := by
  obtain ⟨t1, t2, t3, t4⟩ := ht
  have hgi := h.gi_lt
  refine (read_back (hG.later h.only) hw hc (blk_src h.im hl (by omega)) (by omega) (by omega) t4 (by omega) hid hm hsz hb).mono fun e w' ⟨x, IA, ic, he, hx, hc', ho⟩ => ?_
  exact ⟨x, IA, ic, he, hx, hc', h.past ho t1 (fun b e => by have := Option.some.inj e; simp only at this; omega) (fun b e => by have := Option.some.inj e; simp only at this; omega)⟩
theorem ap_tb {w W : World} {P : List Value} {gi tb x0 x1 i0 i1 M0 M1 : Nat} {img : Bytes} {d0 d1 : Int} (h : ApW w P gi img (.slice (some ⟨x0, 0, none⟩) M0 i0) (.slice (some ⟨x1, 0, none⟩) M1 i1) M0 M1 d0 d1 W) (hG : Gens w) {s : Nat} (hx : gi + 2 ≤ x0 ∧ x0 < s ∧ gi + 2 ≤ x1 ∧ x1 < s) (htb : tb = W.heap.size) : gi + 1 < tb ∧ x0 < tb ∧ x1 < tb ∧ 1 ≠ tb := by
  have h0 := (World.ownsRow.lt h.r0 x0 rfl).2
  have h1 := (World.ownsRow.lt h.r1 x1 rfl).2
  have h2 := h.gi_lt
  have h3 := hG.1
  have h4 := h.only.size
  omega
theorem ap_id {D B : Nat} (h : (B : Int) ≤ 7680) (hB : B = D * 256) : (0 : Int) ≤ (D : Int) ∧ (D : Int) ≤ 1000000 := by omega
theorem ap_my {g : Int} {n M : Nat} {v : Bytes} (h : manyP g n = (M : Int)) (h1 : 1 ≤ M) (hn : n = v.length) : manyP g (v.length : Int) ≠ 0 := by rw [← hn, h]; omega
end Go.Proofs.YtbgnfocfnjlabaaDoor
