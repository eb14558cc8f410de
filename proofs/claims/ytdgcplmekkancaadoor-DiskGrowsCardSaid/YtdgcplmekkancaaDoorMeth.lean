/-
  The methods of a disk that have no loop of their own.
-/
import Derived.Test.YtdgcplmekkancaaDoorDisk
set_option linter.unusedVariables false
namespace Go.Proofs.YtdgcplmekkancaaDoor
open Go.RowKit

theorem owns_slice {w : World} {b : Nat} {e : TypeId} {s : Nat} {v : Value} {n : Nat} {xs : List Value} (h : w.ownsRow b e s v n xs) :
    ∃ A c, v = .slice A n c ∧ ∀ a, A = some a → b ≤ a.block := by
  rcases h.2 with ⟨rfl, rfl⟩ | ⟨g, cap, cur, rfl, hb, _⟩
  · exact ⟨none, 0, rfl, fun a h => by cases h⟩
  · exact ⟨_, cap, rfl, fun a h => by cases h; exact hb⟩
theorem owns_base {w : World} {b b' : Nat} {e : TypeId} {s : Nat} {v : Value} {n : Nat} {xs : List Value} (h : w.ownsRow b e s v n xs) (hb : b' ≤ b) : w.ownsRow b' e s v n xs := by
  refine ⟨h.1, ?_⟩
  rcases h.2 with h0 | ⟨g, cap, cur, hv, hg, r⟩
  · exact .inl h0
  · exact .inr ⟨g, cap, cur, hv, by omega, r⟩

theorem has_c (w : World) (F : Nat → Prop) (p : Nat) (d : Dsk) (h : Holds w F p d) (at_ many : Int) (ha : -9223372036854775808 ≤ at_) (ha' : at_ ≤ 9223372036854775807) :
    Calls Tryd.prog 33 #[.pointer (some ⟨p, 0, none⟩), .int .i64 at_, .int .i64 many] w fun e w' => e = .returned (.bool (d.has at_ many)) ∧ w = w' := by
  have hn : (d.n : Int) ≤ 65536 := by have := h.1.nl; have := h.1.lim; omega
  have hn0 : (0 : Int) ≤ (d.n : Int) := by omega
  by_cases h0 : 0 ≤ at_
  · by_cases h1 : 0 ≤ many
    · by_cases h2 : many ≤ d.n - at_
      all_goals
        have e : d.has at_ many = decide (many ≤ d.n - at_) := by simp [Dsk.has, h0, h1]
        have He := Lib.hid e
        clear e
        go_enter Tryd.func33, Tryd.ntmps33
        go_wp2_with (go_at_call 7; refine (Size_c _ _ _ _ h).mono ?_; rintro e w' ⟨rfl, rfl⟩)
        go_ret
        rw [He.out]
        simp [h2]
    · have e : d.has at_ many = false := by simp [Dsk.has, h0]; omega
      have He := Lib.hid e
      clear e
      go_enter Tryd.func33, Tryd.ntmps33
      go_wp2
      go_ret
      rw [He.out]
      simp
  · have e : d.has at_ many = false := by simp [Dsk.has]; omega
    have He := Lib.hid e
    clear e
    go_enter Tryd.func33, Tryd.ntmps33
    go_wp2
    go_ret
    rw [He.out]
    simp

theorem Arm_c (w : World) (F : Nat → Prop) (p : Nat) (d : Dsk) (h : Holds w F p d) (n : Int) (hn : n ≤ 9223372036854775807) :
    Calls Tryd.prog 18 #[.pointer (some ⟨p, 0, none⟩), .int .i64 n] w fun e w' => e = .returned (.tuple #[]) ∧ Holds w' F p (d.arm n) ∧ Only F w w' := by
  obtain ⟨hw, Ad, As, Ar, cd, cs, cr, hd, hf⟩ := h
  have h5 : w.cell? ⟨p, 5, none⟩ = some (.bool d.armed) := hd.blk.cell 5
  have h6 : w.cell? ⟨p, 6, none⟩ = some (.int .i64 d.left) := hd.blk.cell 6
  have hfz : ∀ i, w.frozen? ⟨p, i, none⟩ = false := hd.blk.frozen
  have Hd := Lib.hid hd
  have Hf := Lib.hid hf
  have Hw := Lib.hid hw
  clear hd hf hw
  have hp : ∀ {k}, k = p → F k := fun h => Hf.out _ (.inl h)
  by_cases h0 : 0 ≤ n
  · have hm : ¬ n < 0 := by omega
    have E : Hid (d.arm n = { d with armed := true, left := n.toNat }) := by show _ = _; simp [Dsk.arm, h0]
    go_enter Tryd.func18, Tryd.ntmps18
    go_wp2
    all_goals
      go_end0
      rw [E.out]
      refine ⟨rfl, ⟨⟨Hw.out.nl, Hw.out.lim, Hw.out.len, Hw.out.fits, by show n.toNat < _; omega⟩, Ad, As, Ar, cd, cs, cr, ?_, Hf.out⟩, ((Only.refl _ _).setCell (hp rfl) _).setCell (hp rfl) _⟩
      have h1 := Hd.out.field 5 (.bool true) { d with armed := true } rfl rfl rfl rfl
      refine h1.field 6 _ { d with armed := true, left := n.toNat } rfl rfl rfl ?_
      simp [fieldsOf]
      omega
  · have hm : n ≤ 0 := by omega
    have hm' : n < 0 := by omega
    have E : Hid (d.arm n = { d with armed := false, left := 0 }) := by show _ = _; simp [Dsk.arm, h0]; omega
    go_enter Tryd.func18, Tryd.ntmps18
    go_wp2
    all_goals
      go_end0
      rw [E.out]
      refine ⟨rfl, ⟨⟨Hw.out.nl, Hw.out.lim, Hw.out.len, Hw.out.fits, by show 0 < _; omega⟩, Ad, As, Ar, cd, cs, cr, ?_, Hf.out⟩, ((Only.refl _ _).setCell (hp rfl) _).setCell (hp rfl) _⟩
      have h1 := Hd.out.field 5 (.bool false) { d with armed := false } rfl rfl rfl rfl
      exact h1.field 6 _ { d with armed := false, left := 0 } rfl rfl rfl rfl

theorem Image_c (w : World) (F : Nat → Prop) (p : Nat) (d : Dsk) (h : Holds w F p d) :
    Calls Tryd.prog 6 #[.pointer (some ⟨p, 0, none⟩)] w fun e w' => e = .returned (.slice (some ⟨w.heap.size, 0, none⟩) (d.n * 64) (d.n * 64)) ∧ Blk w' w.heap.size 5 (cb d.see) ∧ Only (w.heap.size ≤ ·) w w' := by
  obtain ⟨hw, Ad, As, Ar, cd, cs, cr, hd, hf⟩ := h
  have h2 : w.cell? ⟨p, 2, none⟩ = some (.slice As d.n cs) := hd.blk.cell 2
  have Hl : Hid ((cb d.see).length = d.n * 64) := Lib.hid (by rw [cb_length, hw.see])
  have Hs : Hid (0 < d.n → ∃ ad, As = some ad ∧ ad.block < w.heap.size ∧ ∀ j u, (cb d.see)[j]? = some u → w.cell? (ad.add j) = some u) := by
    intro hn
    obtain ⟨g, hg⟩ := owns_pos hd.seen hn
    obtain ⟨g', cur, hgg, hb, _⟩ := owns_form hd.seen hg
    refine ⟨_, hg, ?_, ?_⟩
    · rw [hgg]; exact hb.lt
    · intro j u hu
      rw [hgg, Addr.add_mid, hb.cell, Nat.zero_add, List.getElem?_append_left (List.getElem?_eq_some_iff.1 hu).1]
      exact hu
  have hn : d.n ≤ 4294967296 := by have := hw.nl; have := hw.lim; omega
  clear hw hd hf
  go_enter Tryd.func6, Tryd.ntmps6
  go_wp2_with (go_at_call 24; refine (bytesOf_c _ _ _ _ _ Hl.out Hs.out hn (cb_one _)).mono ?_; rintro e w' ⟨rfl, hb⟩)
  go_ret
  exact ⟨rfl, hb⟩

/-- The sectors of bytes, their number and their cells behind letters. -/
theorem sectorsOf_x (w : World) (A : Option Addr) (n c : Nat) (xs : Bytes) (hs : Src w (w.heap.size ≤ ·) A n (cb xs)) (hc : n ≤ c) (hn : n ≤ 4294967296) (hm : c ≤ maxLen) :
    Calls Tryd.prog 22 #[.slice A n c] w fun e w' => ∃ (M : Nat) (X : Bytes), e = .returned (.slice (some ⟨w.heap.size, 0, none⟩) M M) ∧
      Hid (X = pad xs ∧ M = (xs.length + 63) / 64 ∧ Blk w' w.heap.size 47 (cb X) ∧ Only (w.heap.size ≤ ·) w w') := by
  refine (sectorsOf_c w A n c (cb xs) hs hc hn hm _ rfl (cb_one _)).mono ?_
  rintro e w' ⟨he, hb, ho⟩
  have hl : xs.length = n := by have := hs.1; rwa [cb_length] at this
  refine ⟨(n + 63) / 64, pad xs, he, rfl, by rw [hl], ?_, ho⟩
  rw [pad, cb_append, cb_replicate, hl]
  exact hb

/-- A clone, its value written out. -/
theorem clone53_x (w : World) (b0 : Nat) (v : Value) (n : Nat) (xs : List Value) (ho : w.ownsRow b0 47 64 v n xs) (hn : n ≤ 4294967296) (h1 : ∀ v ∈ xs, v.oneCell' = true) :
    Calls Tryd.prog 23 #[v] w fun e w' => ∃ A c, e = .returned (.slice A n c) ∧ Hid (w'.ownsRow w.heap.size 47 64 (.slice A n c) n xs ∧ (∀ a, A = some a → w.heap.size ≤ a.block) ∧ Only (w.heap.size ≤ ·) w w') := by
  refine (clone53_c w b0 v n xs ho hn h1).mono ?_
  rintro e w' ⟨v', he, h, hO⟩
  obtain ⟨A, c, rfl, hA⟩ := owns_slice h
  exact ⟨A, c, he, h, hA, hO⟩
theorem load_eq (xs : Bytes) (limit : Int) (T L : Nat) (hL : cut limit = L) (hT : min T xs.length = min (L * 64) xs.length) :
    Dsk.load xs limit = { limit := L, n := ((xs.take T).length + 63) / 64, dur := pad (xs.take T), row := [], ops := 0, armed := false, left := 0, down := false } := by
  have : xs.take T = xs.take (L * 64) := by rw [List.take_eq_take_iff]; exact hT
  rw [this]
  simp [Dsk.load, hL]

theorem load_holds {w w1 w2 : World} {F : Nat → Prop} (hF : ∀ k, w.heap.size ≤ k → F k) {xs X : Bytes} {M : Nat} {A2 : Option Addr} {c2 : Nat}
    (H1 : X = pad (xs) ∧ M = (xs.length + 63) / 64 ∧ Blk w1 w.heap.size 47 (cb X) ∧ Only (w.heap.size ≤ ·) w w1) {d : Dsk} (hd : d.WF) (l : Int) (hl : l = (d.limit : Int))
    (e1 : d.n = M) (e2 : d.dur = X) (e3 : d.row = []) (e4 : d.ops = 0) (e5 : d.armed = false) (e6 : d.left = 0) (e7 : d.down = false)
    (H2 : w1.ownsRow 0 47 64 (.slice (some ⟨w.heap.size, 0, none⟩) M M) M (cb X))
    (H3 : w2.ownsRow w1.heap.size 47 64 (.slice A2 M c2) M (cb X) ∧ (∀ a, A2 = some a → w1.heap.size ≤ a.block) ∧ Only (w1.heap.size ≤ ·) w1 w2) :
    Holds (w2.alloc (.cells #[.int .i64 l, .slice (some ⟨w.heap.size, 0, none⟩) M M, .slice A2 M c2, .slice none 0 0, .int .i64 0, .bool false, .int .i64 0, .bool false] 50)) F w2.heap.size d ∧
      Only (w.heap.size ≤ ·) w (w2.alloc (.cells #[.int .i64 l, .slice (some ⟨w.heap.size, 0, none⟩) M M, .slice A2 M c2, .slice none 0 0, .int .i64 0, .bool false, .int .i64 0, .bool false] 50)) := by
  obtain ⟨h31, h32, h33⟩ := H3
  have hlt := H1.2.2.1.lt
  have hb1 := h33.block w.heap.size (by omega)
  have hs1 := H1.2.2.2.size
  have hs2 := h33.size
  have hsee : d.see = X := by rw [Dsk.see, e3]; exact e2
  refine ⟨⟨hd, some ⟨w.heap.size, 0, none⟩, A2, none, M, c2, 0, ⟨?_, ?_, ?_, ?_, ?_⟩, ?_⟩, ?_⟩
  · have h := Blk.new w2 50 (fieldsOf d (some ⟨w.heap.size, 0, none⟩) A2 none M c2 0)
    simp only [fieldsOf, e1, e3, e4, e5, e6, e7] at h ⊢
    rw [← hl] at h ⊢
    exact h
  · rw [e1, e2]
    refine owns_far H2 fun a ha => ?_
    cases ha
    exact (Below.heap_alloc w2 _ _ (show w.heap.size < _ by omega)).trans hb1
  · rw [e1, hsee]
    exact (owns_base h31 (Nat.zero_le _)).alloc _
  · rw [e3]
    exact World.ownsRow_nil _ _ _ _
  · intro a b ha hb
    cases ha
    have := h32 b hb
    show w.heap.size ≠ b.block
    omega
  · rintro k (rfl | ⟨a, ha, rfl⟩ | ⟨a, ha, rfl⟩ | ⟨a, ha, rfl⟩)
    · exact hF _ (by omega)
    · cases ha; exact hF _ (Nat.le_refl _)
    · have := h32 a ha; exact hF _ (by omega)
    · cases ha
  · exact ((H1.2.2.2.trans (h33.mono fun k (hk : w1.heap.size ≤ k) => Nat.le_trans hs1 hk))).alloc (fun _ h => h) _

set_option maxRecDepth 100000 in
set_option maxHeartbeats 1600000 in
theorem Load_c (w : World) (F : Nat → Prop) (hF : ∀ k, w.heap.size ≤ k → F k) (A : Option Addr) (c : Nat) (xs : Bytes) (limit : Int) (hs : Src w (w.heap.size ≤ ·) A xs.length (cb xs)) (hc : xs.length ≤ c) (hm : c ≤ maxLen) :
    Calls Tryd.prog 5 #[.slice A xs.length c, .int .i64 limit] w fun e w' => ∃ p, e = .returned (.pointer (some ⟨p, 0, none⟩)) ∧ Holds w' F p (Dsk.load xs limit) ∧ Only (w.heap.size ≤ ·) w w' := by
  have Hsrc : Hid (∀ m, m ≤ xs.length → Src w (w.heap.size ≤ ·) A m (cb (xs.take m))) := by
    intro m hm
    refine ⟨by rw [cb_length, List.length_take]; omega, fun h0 => ?_⟩
    obtain ⟨ad, hA, hb, hc⟩ := hs.2 (by omega)
    refine ⟨ad, hA, hb, fun j u hu => hc j u ?_⟩
    rw [cb_take, List.getElem?_take] at hu
    split at hu
    · exact hu
    · cases hu
  have Hm := Lib.hid hm
  have HF := Lib.hid hF
  clear hs hm hF
  go_enter Tryd.func5, Tryd.ntmps5
  go_wp2_with fail
  all_goals
    (refine (sectorsOf_x w A _ c (xs.take _) (Hsrc.out _ ?_) ?_ ?_ Hm.out).mono ?_)
  all_goals first | omega | skip
  all_goals
    rintro e w1 ⟨M, X, rfl, H1⟩
    have Hlim : Hid (Dsk.load xs limit = { limit := cut limit, n := M, dur := X, row := [], ops := 0, armed := false, left := 0, down := false }) := by
      obtain ⟨e1, e2, _⟩ := H1.out
      rw [e1, e2]
      exact load_eq xs limit _ _ rfl (by simp only [cut]; omega)
    have Hwf : Hid (Dsk.load xs limit).WF := Dsk.WF.load xs limit
    have Hlen : Hid (M ≤ 65536 ∧ X.length = M * 64) := by
      have := Hwf.out
      rw [Hlim.out] at this
      have h1 := this.nl
      have h2 := this.lim
      have h3 := this.len
      simp only at h1 h2 h3
      exact ⟨by omega, h3⟩
    have H2 : Hid (w1.ownsRow 0 47 64 (.slice (some ⟨w.heap.size, 0, none⟩) M M) M (cb X)) :=
      owns_mk (cur := []) (by rw [List.append_nil]; exact H1.out.2.2.1) (by rw [cb_length]; exact Hlen.out.2) (by rw [List.append_nil, cb_length]; exact Hlen.out.2) (Nat.le_refl _) (by have := Hlen.out.1; simp only [maxLen]; omega)
    have hM : M ≤ 4294967296 := by have := Hlen.out.1; omega
    go_wp2_with (go_at_call 23; refine (clone53_x _ _ _ _ _ H2.out hM (cb_one _)).mono ?_; rintro e w2 ⟨A2, c2, rfl, H3⟩)
    go_ret
    exact ⟨_, rfl, load_holds HF.out H1.out Hwf.out _ (by rw [Hlim.out]; simp only [cut]; omega) (by rw [Hlim.out]) (by rw [Hlim.out]) rfl rfl rfl rfl rfl H2.out H3.out⟩
end Go.Proofs.YtdgcplmekkancaaDoor
