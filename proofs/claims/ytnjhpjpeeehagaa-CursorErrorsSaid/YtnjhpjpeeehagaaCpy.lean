/-
  A node as the program, and as the document, has it: one made of the other.
-/
import Derived.Test.YtnjhpjpeeehagaaStb
import Derived.Laws.OwnMore
set_option linter.unusedVariables false
namespace Go.Proofs.Ytnjhpjpeeehagaa
open Go.RowKit

theorem info_RI : (Try.prog.info? 44).map (fun i => (i.zero, i.size, i.bytes)) = some (some zI, 4, 64) := by kernel_rfl
theorem info_RK : (Try.prog.info? 87).map (fun i => (i.zero, i.size, i.bytes)) = some (some zK, 2, 32) := by kernel_rfl
/-- A node comes back. -/
def GaveN (w : World) (x : Nd) (e : Ending) (w' : World) : Prop := ∃ A n c B m d, e = .returned (.agg #[.bool x.leaf, .slice A n c, .slice B m d]) ∧ Nod w' x x.leaf (.slice A n c) (.slice B m d) ∧ Only (w.heap.size ≤ ·) w w'

theorem take_one_more {α : Type} {C : List α} {k z : Nat} {cs : List α} (hz : cs.length = z) (hp : 0 < z) (h : ∀ j u, cs[j]? = some u → C[k * z + j]? = some u) : C.take ((k + 1) * z) = C.take (k * z) ++ cs := by
  have h0 := h (z - 1) cs[z - 1] (List.getElem?_eq_getElem (by omega))
  have hlen := (List.getElem?_eq_some_iff.1 h0).1
  apply List.ext_getElem?
  intro i
  rw [Nat.succ_mul, List.getElem?_take, List.getElem?_append, List.length_take, Nat.min_eq_left (by omega), List.getElem?_take]
  by_cases h1 : i < k * z
  · rw [if_pos (by omega), if_pos h1, if_pos h1]
  · rw [if_neg h1]
    by_cases h2 : i < k * z + z
    · rw [if_pos h2, List.getElem?_eq_getElem (by omega : i - k * z < cs.length)]
      have := h (i - k * z) cs[i - k * z] (List.getElem?_eq_getElem (by omega))
      rwa [show k * z + (i - k * z) = i by omega] at this
    · rw [if_neg h2, List.getElem?_eq_none (by omega)]

theorem its_step {w : World} {A : Option Addr} {n c k : Nat} {l : List It} {C : List Value} (hd : Den (itE.At w) l C) (hr : RawV 4 w (.slice A n c) n C) (hn : n = l.length) (hk : k < n) :
    ∃ (b off : Nat) (P Q : Option Addr) (a p e q : Nat) (s r : Int), A = some ⟨b, off, none⟩ ∧ b < w.heap.size ∧ w.cell? ⟨b, off + k * 4, none⟩ = some (.slice P a p) ∧ w.cell? ⟨b, off + k * 4 + 1, none⟩ = some (.slice Q e q) ∧ w.cell? ⟨b, off + k * 4 + 2, none⟩ = some (.int .i64 s) ∧ w.cell? ⟨b, off + k * 4 + 3, none⟩ = some (.int .i64 r) ∧
      C.take ((k + 1) * 4) = C.take (k * 4) ++ [.slice P a p, .slice Q e q, .int .i64 s, .int .i64 r] := by
  subst hn
  obtain ⟨cs, ⟨P, p, Q, q, e, _⟩, hg⟩ := hd.get (z := 4) (fun _ _ => itE.len) (List.getElem?_eq_getElem hk)
  obtain ⟨A', c', e2, hl, hraw, _⟩ := hr
  simp only [Value.slice.injEq, true_and] at e2
  obtain ⟨rfl, rfl⟩ := e2
  obtain ⟨b, off, e3, hb, hc⟩ := hraw (by rw [hl]; omega)
  have ht := take_one_more (z := 4) (by rw [e]; rfl) (by omega) hg
  subst e
  exact ⟨b, off, P, Q, _, p, _, q, _, _, e3, hb, hc _ _ (hg 0 _ rfl), hc _ _ (hg 1 _ rfl), hc _ _ (hg 2 _ rfl), hc _ _ (hg 3 _ rfl), ht⟩
theorem kds_step {w : World} {A : Option Addr} {n c k : Nat} {l : List Kd} {C : List Value} (hd : Den (kdE.At w) l C) (hr : RawV 2 w (.slice A n c) n C) (hn : n = l.length) (hk : k < n) :
    ∃ (b off : Nat) (P : Option Addr) (a p : Nat) (r : Int), A = some ⟨b, off, none⟩ ∧ b < w.heap.size ∧ w.cell? ⟨b, off + k * 2, none⟩ = some (.slice P a p) ∧ w.cell? ⟨b, off + k * 2 + 1, none⟩ = some (.int .i64 r) ∧
      C.take ((k + 1) * 2) = C.take (k * 2) ++ [.slice P a p, .int .i64 r] := by
  subst hn
  obtain ⟨cs, ⟨P, p, e, _⟩, hg⟩ := hd.get (z := 2) (fun _ _ => kdE.len) (List.getElem?_eq_getElem hk)
  obtain ⟨A', c', e2, hl, hraw, _⟩ := hr
  simp only [Value.slice.injEq, true_and] at e2
  obtain ⟨rfl, rfl⟩ := e2
  obtain ⟨b, off, e3, hb, hc⟩ := hraw (by rw [hl]; omega)
  have ht := take_one_more (z := 2) (by rw [e]; rfl) (by omega) hg
  subst e
  exact ⟨b, off, P, _, p, _, e3, hb, hc _ _ (hg 0 _ rfl), hc _ _ (hg 1 _ rfl), ht⟩

theorem own_on {w w' : World} {F : Nat → Prop} {B z n : Nat} {t : TypeId} {v : Value} {C : List Value} (h : w.ownsRow B t z v n C) (ho : Only F w w') (hF : ∀ k, v.ownBlock = some k → ¬ F k) : w'.ownsRow B t z v n C := by
  refine ⟨h.1, ?_⟩
  rcases h.2 with h2 | ⟨g, cap, cur, rfl, hb, hg, h3⟩
  · exact .inl h2
  · exact .inr ⟨g, cap, cur, rfl, hb, (ho.block g (hF g rfl)).trans hg, h3⟩
theorem Blk.tri {w : World} {g : Nat} {t : TypeId} {a b c : Value} (h : Blk w g t [a, b, c]) : w.cell? ⟨g, 0, none⟩ = some a ∧ w.cell? ⟨g, 1, none⟩ = some b ∧ w.cell? ⟨g, 2, none⟩ = some c := ⟨h.cell 0, h.cell 1, h.cell 2⟩
theorem Blk.melt3 {w : World} {g : Nat} {t : TypeId} {cs : List Value} (h : Blk w g t cs) : w.frozen? ⟨g, 0, none⟩ = false ∧ w.frozen? ⟨g, 1, none⟩ = false ∧ w.frozen? ⟨g, 2, none⟩ = false := ⟨h.frozen 0, h.frozen 1, h.frozen 2⟩

/-- Under way: from world wm on only the node's own block, and new ones, have changed; the node is this; the row that grows is that. -/
def Under (wm wr : World) (bo : Nat) (td te : TypeId) (z : Nat) (out : List Value) (v : Value) (k : Nat) (C : List Value) : Prop :=
  Only (fun j => j = bo ∨ wm.heap.size ≤ j) wm wr ∧ Blk wr bo td out ∧ wr.ownsRow wm.heap.size te z v k C
theorem Under.blk {wm wr w' : World} {bo : Nat} {td te : TypeId} {z : Nat} {out : List Value} {v : Value} {k : Nat} {C : List Value} {o1 o2 : Obj} (h : Under wm wr bo td te z out v k C) (hbo : bo < wm.heap.size) (hg : ((wr.alloc o1).alloc o2).grownBy w' v.ownBlock) : Blk w' bo td out := by
  have h2 := (h.2.1.alloc o1).alloc o2
  exact (hg.block bo h2.lt fun e => by have := (World.ownsRow.lt h.2.2 bo e.symm).1; omega).trans h2
theorem Under.step {wm wr w' : World} {bo : Nat} {td te : TypeId} {z : Nat} {out : List Value} {v v' : Value} {k k' : Nat} {C C' : List Value} {o1 o2 : Obj} (j : Nat) (h : Under wm wr bo td te z out v k C) (hbo : bo < wm.heap.size) (hg : ((wr.alloc o1).alloc o2).grownBy w' v.ownBlock)
    (ho : w'.ownsRow wm.heap.size te z v' k' C') : Under wm (w'.setCell ⟨bo, j, none⟩ v') bo td te z (out.set j v') v' k' C' := by
  have hs := h.1.size
  have h3 : Only (fun j => j = bo ∨ wm.heap.size ≤ j) wm w' := Only.grown ((h.1.alloc (fun _ h => .inr h) o1).alloc (fun _ h => .inr h) o2) hg (fun _ h => .inr h) (fun g hg => .inr (World.ownsRow.lt h.2.2 g hg).1)
  refine ⟨h3.setCell (p := ⟨bo, j, none⟩) (.inl rfl) v', (h.blk hbo hg).set_ j v', ?_⟩
  refine own_on ho (F := (· = bo)) ((Only.refl (· = bo) w').setCell (p := ⟨bo, j, none⟩) rfl v') fun k hk e => ?_
  have := (World.ownsRow.lt ho k hk).1
  omega

set_option maxRecDepth 100000 in
set_option maxHeartbeats 12800000 in
theorem NOf_c (w : World) (A B : Option Addr) (n c m d : Nat) (f : Bool) (x : Nd) (hN : Nod w x f (.slice A n c) (.slice B m d)) (hs : x.its.length ≤ 1000 ∧ x.kds.length ≤ 1000 ∧ True) :
    Calls Try.prog 28 #[.agg #[.bool f, .slice A n c, .slice B m d]] w (GaveN w x) := by
  obtain ⟨i1, hi0, hz0, hz1, hz2⟩ := info_parts info_I
  have HI1 := Lib.hid (And.intro hi0 (And.intro hz0 (And.intro hz1 hz2)))
  clear hi0 hz0 hz1 hz2
  obtain ⟨i2, hi0, hz0, hz1, hz2⟩ := info_parts info_K
  have HI2 := Lib.hid (And.intro hi0 (And.intro hz0 (And.intro hz1 hz2)))
  clear hi0 hz0 hz1 hz2
  have hc1 := hN.2.1.cap
  have hc2 := hN.2.2.cap
  have hn1 : n ≤ 1000 := by rw [hN.2.1.len]; exact hs.1
  have hm1 : m ≤ 1000 := by rw [hN.2.2.len]; exact hs.2.1
  have HNL := Lib.hid hN.2.1.len
  have HML := Lib.hid hN.2.2.len
  have HFL := Lib.hid hN.1
  obtain ⟨C, hC⟩ := hN.2.1.srw
  obtain ⟨D, hD⟩ := hN.2.2.srw
  have HS1 : Hid (∀ W, Only (w.heap.size ≤ ·) w W → Den (itE.At W) x.its C ∧ RawV 4 W (.slice A n c) n C) := fun W hW => by
    have h := hC W (hW.mono fun _ h => .inr h)
    exact ⟨h.1, by have h2 := h.2; rw [← HNL.out] at h2; exact h2⟩
  have HS2 : Hid (∀ W, Only (w.heap.size ≤ ·) w W → Den (kdE.At W) x.kds D ∧ RawV 2 W (.slice B m d) m D) := fun W hW => by
    have h := hD W (hW.mono fun _ h => .inr h)
    exact ⟨h.1, by have h2 := h.2; rw [← HML.out] at h2; exact h2⟩
  clear hC hD hN hs
  obtain ⟨wm, hwm⟩ : ∃ wm, wm = (((w.alloc (.cells #[.bool f, .slice A n c, .slice B m d] 63)).alloc (.cells #[.bool false, .slice none 0 0, .slice none 0 0] 55)).alloc (.cells #[.bool f, .slice none 0 0, .slice none 0 0] 55)) := ⟨_, rfl⟩
  have HOM1 : Hid (Only (w.heap.size ≤ ·) w wm) := Lib.hid (by rw [hwm]; exact (((Only.refl _ w).alloc (fun _ h => h) _).alloc (fun _ h => h) _).alloc (fun _ h => h) _)
  have HZ : Hid (wm.heap.size = w.heap.size + 3) := Lib.hid (by rw [hwm]; simp)
  have HBO1 : Hid (w.heap.size + 1 + 1 < wm.heap.size) := Lib.hid (by rw [HZ.out]; omega)
  have HBX : Hid (Blk wm w.heap.size 63 [.bool f, .slice A n c, .slice B m d]) := Lib.hid (by rw [hwm]; exact ((Blk.new w 63 _).alloc _).alloc _)
  have HBR : Hid (Blk wm (w.heap.size + 1) 55 [.bool false, .slice none 0 0, .slice none 0 0]) := Lib.hid (by
    rw [hwm]
    have := (Blk.new (w.alloc (.cells #[.bool f, .slice A n c, .slice B m d] 63)) 55 [.bool false, .slice none 0 0, .slice none 0 0]).alloc (.cells #[.bool f, .slice none 0 0, .slice none 0 0] 55)
    simpa using this)
  have HBT : Hid (Blk wm (w.heap.size + 1 + 1) 55 [.bool f, .slice none 0 0, .slice none 0 0]) := Lib.hid (by
    rw [hwm]
    have := Blk.new ((w.alloc (.cells #[.bool f, .slice A n c, .slice B m d] 63)).alloc (.cells #[.bool false, .slice none 0 0, .slice none 0 0] 55)) 55 [.bool f, .slice none 0 0, .slice none 0 0]
    simpa using this)
  have HWM := Lib.hid hwm
  clear hwm
  go_enter Try.func28, Try.ntmps28
  go_wp2
  rw [← HWM.out]
  clear HWM
  go_loopw [14] (fun i wr => ∃ (k : Nat) (R : Option Addr) (t : Nat), k ≤ n ∧ i = .int .i64 k ∧ Hid (Under wm wr (w.heap.size + 1 + 1) 55 39 4 [.bool f, .slice R k t, .slice none 0 0] (.slice R k t) k (C.take (k * 4)))) (fun i _ => n - (intOf i).toNat)
  case atStart => exact ⟨0, none, 0, Nat.zero_le _, rfl, Lib.hid ⟨Only.refl _ _, HBT.out, by rw [Nat.zero_mul, List.take_zero]; exact World.ownsRow_nil _ _ _ _⟩⟩
  case round =>
    obtain ⟨k, R, t, hk, rfl, HU⟩ := hrel
    by_cases hlt : k < n
    · have hOw : Only (w.heap.size ≤ ·) w wr := HOM1.out.trans (HU.out.1.mono fun j hj => by have := HBO1.out; have := HOM1.out.size; omega)
      obtain ⟨b, off, P, Q, a, p, e, q, s, r, rfl, hb, q0, q1, q2, q3, htk⟩ := its_step (HS1.out _ hOw).1 (HS1.out _ hOw).2 HNL.out hlt
      have HT := Lib.hid htk
      have hkc : (k : Int) < (n : Int) := by omega
      obtain ⟨o0, o1, o2⟩ := (HU.out.2.1.alloc (.cells #[.slice P a p, .slice Q e q, .int .i64 s, .int .i64 r] 44)).tri
      have HB : Hid (Blk ((wr.alloc (.cells #[.slice P a p, .slice Q e q, .int .i64 s, .int .i64 r] 44)).alloc (.cells #[.slice P a p, .slice Q e q, .int .i64 s, .int .i64 r] 39)) (wr.heap.size + 1) 39 [.slice P a p, .slice Q e q, .int .i64 s, .int .i64 r]) := by
        have := Blk.new (wr.alloc (.cells #[.slice P a p, .slice Q e q, .int .i64 s, .int .i64 r] 44)) 39 [.slice P a p, .slice Q e q, .int .i64 s, .int .i64 r]
        exact Lib.hid (by simpa using this)
      clear htk hOw
      go_wp2_with (at_builtin; refine wpList_append_own _ rfl (.tmp 19) (.tmp 21) 52 rfl wm.heap.size 39 i1 zI 4 64 Try.underlying52 HI1.out.1 HI1.out.2.1 HI1.out.2.2.1 HI1.out.2.2.2 (by rfl) (by omega) (.slice R k t) k (C.take (k * 4)) rfl ((World.ownsRow.alloc HU.out.2.2 _).alloc _) ⟨wr.heap.size + 1, 0, none⟩ 1 1 [.slice P a p, .slice Q e q, .int .i64 s, .int .i64 r] rfl rfl (fun j u hu => by rw [Addr.add_lit, HB.out.cell, Nat.zero_add]; exact hu) (by simp [Value.oneCell']) (by simp only [maxLen]; omega) (by omega) (by have := HU.out.1.size; simp; omega) ?_; intro v' w' ho' hg' _; (obtain ⟨R2, t2, rfl, _⟩ := raw_of_own ho'); have HB' := Lib.hid (Under.blk HU.out HBO1.out hg'); (obtain ⟨oo0, oo1, oo2⟩ := HB'.out.tri); (obtain ⟨fo0, fo1, fo2⟩ := HB'.out.melt3); have HW := Lib.hid (Under.step 1 HU.out HBO1.out hg' ho'); clear ho' hg')
      go_roundw
      case rel => exact ⟨k + 1, R2, t2, by omega, by go_num, Lib.hid (by rw [HT.out]; exact HW.out)⟩
      case measure => simp [intOf]; omega
    · obtain rfl : n = k := by omega
      have HU1 := HU
      have HOM2 : Hid (Only (w.heap.size ≤ ·) w wr) := Lib.hid (HOM1.out.trans (HU.out.1.mono fun j hj => by have := HBO1.out; have := HOM1.out.size; omega))
      have HBO2 : Hid (w.heap.size + 1 + 1 < wr.heap.size) := Lib.hid (Nat.lt_of_lt_of_le HBO1.out HU.out.1.size)
      have HBX2 := Lib.hid (HBX.out.only HU.out.1 fun h => by have := HBO1.out; omega)
      obtain ⟨x0, x1, x2⟩ := HBX2.out.tri
      have HBR2 := Lib.hid (HBR.out.only HU.out.1 fun h => by have := HBO1.out; omega)
      obtain ⟨o0, o1, o2⟩ := HU.out.2.1.tri
      clear HU HBX HBR HBT
      have hkm : ¬ (n : Int) < (n : Int) := by omega
      go_wp2
      obtain ⟨wn, hwn⟩ : ∃ wn, wn = wr := ⟨_, rfl⟩
      subst hwn
      obtain ⟨R1, hR1⟩ : ∃ R1, R1 = R := ⟨_, rfl⟩
      subst hR1
      obtain ⟨t1, ht1⟩ : ∃ t1, t1 = t := ⟨_, rfl⟩
      subst ht1
      clear hkm o0 o1 o2 x0 x1 x2
      go_loopw [28] (fun i wr => ∃ (k : Nat) (R : Option Addr) (t : Nat), k ≤ m ∧ i = .int .i64 k ∧ Hid (Under wn wr (w.heap.size + 1 + 1) 55 97 2 [.bool f, .slice R1 n t1, .slice R k t] (.slice R k t) k (D.take (k * 2)))) (fun i _ => m - (intOf i).toNat)
      case atStart => exact ⟨0, none, 0, Nat.zero_le _, rfl, Lib.hid ⟨Only.refl _ _, HU1.out.2.1, by rw [Nat.zero_mul, List.take_zero]; exact World.ownsRow_nil _ _ _ _⟩⟩
      case round =>
        obtain ⟨k, R, t, hk, rfl, HU⟩ := hrel
        by_cases hlt : k < m
        · have hOw : Only (w.heap.size ≤ ·) w wr := HOM2.out.trans (HU.out.1.mono fun j hj => by have := HBO2.out; have := HOM2.out.size; omega)
          obtain ⟨b, off, P, a, p, r, rfl, hb, q0, q1, htk⟩ := kds_step (HS2.out _ hOw).1 (HS2.out _ hOw).2 HML.out hlt
          have HT := Lib.hid htk
          have hkc : (k : Int) < (m : Int) := by omega
          obtain ⟨o0, o1, o2⟩ := (HU.out.2.1.alloc (.cells #[.slice P a p, .int .i64 r] 87)).tri
          have HB : Hid (Blk ((wr.alloc (.cells #[.slice P a p, .int .i64 r] 87)).alloc (.cells #[.slice P a p, .int .i64 r] 97)) (wr.heap.size + 1) 97 [.slice P a p, .int .i64 r]) := by
            have := Blk.new (wr.alloc (.cells #[.slice P a p, .int .i64 r] 87)) 97 [.slice P a p, .int .i64 r]
            exact Lib.hid (by simpa using this)
          clear htk hOw
          go_wp2_with (at_builtin; refine wpList_append_own _ rfl (.tmp 33) (.tmp 35) 53 rfl wn.heap.size 97 i2 zK 2 32 Try.underlying53 HI2.out.1 HI2.out.2.1 HI2.out.2.2.1 HI2.out.2.2.2 (by rfl) (by omega) (.slice R k t) k (D.take (k * 2)) rfl ((World.ownsRow.alloc HU.out.2.2 _).alloc _) ⟨wr.heap.size + 1, 0, none⟩ 1 1 [.slice P a p, .int .i64 r] rfl rfl (fun j u hu => by rw [Addr.add_lit, HB.out.cell, Nat.zero_add]; exact hu) (by simp [Value.oneCell']) (by simp only [maxLen]; omega) (by omega) (by have := HU.out.1.size; simp; omega) ?_; intro v' w' ho' hg' _; (obtain ⟨R2, t2, rfl, _⟩ := raw_of_own ho'); have HB' := Lib.hid (Under.blk HU.out HBO2.out hg'); (obtain ⟨oo0, oo1, oo2⟩ := HB'.out.tri); (obtain ⟨fo0, fo1, fo2⟩ := HB'.out.melt3); have HW := Lib.hid (Under.step 2 HU.out HBO2.out hg' ho'); clear ho' hg')
          go_roundw
          case rel => exact ⟨k + 1, R2, t2, by omega, by go_num, Lib.hid (by rw [HT.out]; exact HW.out)⟩
          case measure => simp [intOf]; omega
        · obtain rfl : m = k := by omega
          have hO2 : Only (w.heap.size ≤ ·) w wr := HOM2.out.trans (HU.out.1.mono fun j hj => by have := HBO2.out; have := HOM2.out.size; omega)
          have HBR3 := Lib.hid (HBR2.out.only HU.out.1 fun h => by have := HBO2.out; omega)
          obtain ⟨z0, z1, z2⟩ := HBR3.out.tri
          obtain ⟨fz0, fz1, fz2⟩ := HBR3.out.melt3
          obtain ⟨o0, o1, o2⟩ := HU.out.2.1.tri
          have hkm : ¬ (m : Int) < (m : Int) := by omega
          have HO2 := Lib.hid hO2
          clear hO2
          go_wp2
          obtain ⟨Wf, hWf⟩ : ∃ Wf, Wf = (((wr.setCell ⟨w.heap.size + 1, 0, none⟩ (.bool f)).setCell ⟨w.heap.size + 1, 1, none⟩ (.slice R1 n t1)).setCell ⟨w.heap.size + 1, 2, none⟩ (.slice R m t)) := ⟨_, rfl⟩
          have hBf : Blk Wf (w.heap.size + 1) 55 [.bool f, .slice R1 n t1, .slice R m t] := by rw [hWf]; exact ((HBR3.out.set_ 0 _).set_ 1 _).set_ 2 _
          have hOs : Only (· = w.heap.size + 1) wr Wf := by rw [hWf]; exact (((Only.refl (· = w.heap.size + 1) _).setCell (p := ⟨w.heap.size + 1, 0, none⟩) rfl _).setCell (p := ⟨w.heap.size + 1, 1, none⟩) rfl _).setCell (p := ⟨w.heap.size + 1, 2, none⟩) rfl _
          rw [← hWf]
          clear hWf z0 z1 z2 o0 o1 o2
          obtain ⟨y0, y1, y2⟩ := hBf.tri
          have hOf : Only (w.heap.size ≤ ·) w Wf := HO2.out.trans (hOs.mono fun j hj => by omega)
          refine bodyPost_ret (v := .agg #[.bool f, .slice R1 n t1, .slice R m t]) (by simp [results, Try.results28, go_sem, y0, y1, y2]) rfl ?_
          have hz := HZ.out
          have hs2 := HU.out.1.size
          have hw1 := HU1.out.2.2
          have hw2 := HU.out.2.2
          have s1 := HS1.out Wf hOf
          have s2 := HS2.out Wf hOf
          have e1 : C.take (n * 4) = C := List.take_of_length_le (by obtain ⟨_, _, _, h2, _⟩ := s1.2; rw [h2]; exact Nat.le_refl _)
          have e2 : D.take (m * 2) = D := List.take_of_length_le (by obtain ⟨_, _, _, h2, _⟩ := s2.2; rw [h2]; exact Nat.le_refl _)
          rw [e1] at hw1
          rw [e2] at hw2
          have hb1 := World.ownsRow.lt hw1
          have hb2 := World.ownsRow.lt hw2
          have hbo2 := HBO2.out
          have g1 := own_on (own_on hw1 HU.out.1 fun j hj e => by have := hb1 j hj; omega) hOs fun j hj e => by have := hb1 j hj; omega
          have g2 := own_on hw2 hOs fun j hj e => by have := hb2 j hj; omega
          obtain rfl := HFL.out
          exact ⟨R1, n, t1, R, m, t, rfl, ⟨rfl, Own.rw_ (E := itE) (t := 39) (B := wm.heap.size) ⟨HNL.out, C, s1.1, g1⟩, Own.rw_ (E := kdE) (t := 97) (B := wn.heap.size) ⟨HML.out, D, s2.1, g2⟩⟩, hOf⟩

end Go.Proofs.Ytnjhpjpeeehagaa
