/-
  EqualFunc of equal rows; Same of the program, where both are the same; few of the laws.
-/
import Derived.Test.YtjbbljnfgpggkaaDoorSam
set_option linter.unusedVariables false
namespace Go.Proofs.YtjbbljnfgpggkaaDoor
open Go.RowKit

set_option maxHeartbeats 3200000 in
theorem sameKid_eq (w : World) (P P2 : Option Addr) (t p p2 : Nat) (r : Int) (xs : Bytes) (ht : t = xs.length) (h : Src w (.slice P t p) xs) (h2 : Src w (.slice P2 t p2) xs) :
    Calls Tryd.prog 45 #[.agg #[.slice P t p, .int .i64 r], .agg #[.slice P2 t p2, .int .i64 r]] w (Told w (.bool true)) := by
  have HO : Hid (Only (w.heap.size ≤ ·) w ((w.alloc (.cells #[.slice P t p, .int .i64 r] 58)).alloc (.cells #[.slice P2 t p2, .int .i64 r] 58))) := ((Only.refl _ w).alloc (fun _ h => h) _).alloc (fun _ h => h) _
  have H1 := Lib.hid (h.later HO.out)
  have H2 := Lib.hid (h2.later HO.out)
  clear h h2 ht
  go_enter Tryd.func45, Tryd.ntmps45
  go_wp2_with (go_at_call 11; (with_reducible refine (Equal_b _ _ _ xs xs true H1.out H2.out (decide_eq_true rfl)).mono ?_); rintro e w' ⟨rfl, rfl⟩)
  go_ret
  exact ⟨rfl, HO.out⟩


set_option maxRecDepth 100000 in
set_option maxHeartbeats 6400000 in
theorem EqI_eq (w : World) (A A2 : Option Addr) (n c c2 : Nat) (l : List It) (h : Rw itE w (.slice A n c) l) (h2 : Rw itE w (.slice A2 n c2) l) (hn : n ≤ 1000) :
    Calls Tryd.prog 42 #[.slice A n c, .slice A2 n c2, .func (.func 43) #[] #[]] w (Told w (.bool true)) := by
  have HIT := Lib.hid (its_both' h h2)
  have hc1 := h.cap
  have hc2 := h2.cap
  clear h h2
  go_enter Tryd.func42, Tryd.ntmps42
  go_wp2
  go_loopw [17] (fun i wr => ∃ (k : Nat), k ≤ n ∧ i = .int .i64 k ∧ Only (w.heap.size ≤ ·) w wr) (fun i _ => n - (intOf i).toNat)
  case atStart => exact ⟨0, Nat.zero_le _, rfl, Only.refl _ _⟩
  case round =>
    obtain ⟨k, hk, rfl, ho⟩ := hrel
    have HOL := Lib.hid ho
    clear ho
    by_cases hlt : k < n
    · obtain ⟨b, off, b2, off2, P, Q, P2, Q2, t, p, e, q, p2, q2, s, r, rfl, rfl, hcells, hcall⟩ := HIT.out k hlt
      have HC := Lib.hid hcall
      clear hcall
      have HCS := Lib.hid hcells
      clear hcells
      obtain ⟨x1, x2, x3, x4, x5, x6, x7, x8⟩ := HCS.out _ HOL.out
      have y := HCS.out (wr.alloc (.cells #[.slice P t p, .slice Q e q, .int .i64 s, .int .i64 r] 56)) (HOL.out.alloc (fun _ h => h) _)
      obtain ⟨y1, y2, y3, y4, y5, y6, y7, y8⟩ := y
      have HO2 : Hid (Only (w.heap.size ≤ ·) w ((wr.alloc (.cells #[.slice P t p, .slice Q e q, .int .i64 s, .int .i64 r] 56)).alloc (.cells #[.slice P2 t p2, .slice Q2 e q2, .int .i64 s, .int .i64 r] 56))) := (HOL.out.alloc (fun _ h => h) _).alloc (fun _ h => h) _
      have j1 : (0 : Int) ≤ (k : Int) := by omega
      have j2 : (k : Int) < (n : Int) := by omega
      go_wp2_with (go_at_call 43; (with_reducible refine (HC.out _ HO2.out).mono ?_); rintro e w3 ⟨rfl, ho⟩; have HO3 := Lib.hid (on_new HO2.out ho); clear ho)
      go_roundw
      case rel => exact ⟨k + 1, by omega, by go_num, HO3.out⟩
      case measure => simp [intOf]; omega
    · obtain rfl : n = k := by omega
      have hkm : ¬ (n : Int) < (n : Int) := by omega
      go_wp2
      go_ret
      exact ⟨rfl, HOL.out⟩

set_option maxRecDepth 100000 in
set_option maxHeartbeats 6400000 in
theorem EqK_eq (w : World) (B B2 : Option Addr) (m d d2 : Nat) (l : List Kd) (h : Rw kdE w (.slice B m d) l) (h2 : Rw kdE w (.slice B2 m d2) l) (hn : m ≤ 1000) :
    Calls Tryd.prog 44 #[.slice B m d, .slice B2 m d2, .func (.func 45) #[] #[]] w (Told w (.bool true)) := by
  have HIT := Lib.hid (kds_both h h2)
  have hc1 := h.cap
  have hc2 := h2.cap
  clear h h2
  go_enter Tryd.func44, Tryd.ntmps44
  go_wp2
  go_loopw [17] (fun i wr => ∃ (k : Nat), k ≤ m ∧ i = .int .i64 k ∧ Only (w.heap.size ≤ ·) w wr) (fun i _ => m - (intOf i).toNat)
  case atStart => exact ⟨0, Nat.zero_le _, rfl, Only.refl _ _⟩
  case round =>
    obtain ⟨k, hk, rfl, ho⟩ := hrel
    have HOL := Lib.hid ho
    clear ho
    by_cases hlt : k < m
    · obtain ⟨b, off, b2, off2, P, P2, t, p, p2, r, xs, rfl, rfl, ht, hcells, hsrc⟩ := HIT.out k hlt
      have HC : Hid (∀ W, Only (w.heap.size ≤ ·) w W → Calls Tryd.prog 45 #[.agg #[.slice P t p, .int .i64 r], .agg #[.slice P2 t p2, .int .i64 r]] W (Told W (.bool true))) := fun W hW => sameKid_eq W P P2 t p p2 r xs ht (hsrc W hW).1 (hsrc W hW).2
      clear ht hsrc
      have HCS := Lib.hid hcells
      clear hcells
      obtain ⟨x1, x2, x3, x4⟩ := HCS.out _ HOL.out
      have y := HCS.out (wr.alloc (.cells #[.slice P t p, .int .i64 r] 58)) (HOL.out.alloc (fun _ h => h) _)
      obtain ⟨y1, y2, y3, y4⟩ := y
      have HO2 : Hid (Only (w.heap.size ≤ ·) w ((wr.alloc (.cells #[.slice P t p, .int .i64 r] 58)).alloc (.cells #[.slice P2 t p2, .int .i64 r] 58))) := (HOL.out.alloc (fun _ h => h) _).alloc (fun _ h => h) _
      have j1 : (0 : Int) ≤ (k : Int) := by omega
      have j2 : (k : Int) < (m : Int) := by omega
      go_wp2_with (go_at_call 45; (with_reducible refine (HC.out _ HO2.out).mono ?_); rintro e w3 ⟨rfl, ho⟩; have HO3 := Lib.hid (on_new HO2.out ho); clear ho)
      go_roundw
      case rel => exact ⟨k + 1, by omega, by go_num, HO3.out⟩
      case measure => simp [intOf]; omega
    · obtain rfl : m = k := by omega
      have hkm : ¬ (m : Int) < (m : Int) := by omega
      go_wp2
      go_ret
      exact ⟨rfl, HOL.out⟩

set_option maxRecDepth 100000 in
set_option maxHeartbeats 6400000 in
theorem NSame_eq (w : World) (f : Bool) (A B A2 B2 : Option Addr) (n c m d c2 d2 : Nat) (x : Nd) (h : Nod w x f (.slice A n c) (.slice B m d)) (h2 : Nod w x f (.slice A2 n c2) (.slice B2 m d2)) (hn : n ≤ 1000) (hm : m ≤ 1000) :
    Calls Tryd.prog 16 #[.agg #[.bool f, .slice A n c, .slice B m d], .agg #[.bool f, .slice A2 n c2, .slice B2 m d2]] w (Told w (.bool true)) := by
  obtain ⟨W0, hW0⟩ : ∃ W0, W0 = ((w.alloc (.cells #[.bool f, .slice A n c, .slice B m d] 34)).alloc (.cells #[.bool f, .slice A2 n c2, .slice B2 m d2] 34)) := ⟨_, rfl⟩
  have HO : Hid (Only (w.heap.size ≤ ·) w W0) := Lib.hid (by rw [hW0]; exact ((Only.refl _ w).alloc (fun _ h => h) _).alloc (fun _ h => h) _)
  have HI : Hid (Blk W0 w.heap.size 34 [.bool f, .slice A n c, .slice B m d]) := Lib.hid (by rw [hW0]; exact (Blk.new w 34 _).alloc _)
  have HJ : Hid (Blk W0 (w.heap.size + 1) 34 [.bool f, .slice A2 n c2, .slice B2 m d2]) := Lib.hid (by
    rw [hW0]
    have := Blk.new (w.alloc (.cells #[.bool f, .slice A n c, .slice B m d] 34)) 34 [.bool f, .slice A2 n c2, .slice B2 m d2]
    simpa using this)
  have HW0 := Lib.hid hW0
  have HE1 : Hid (∀ W, Only (w.heap.size ≤ ·) w W → Calls Tryd.prog 42 #[.slice A n c, .slice A2 n c2, .func (.func 43) #[] #[]] W (Told W (.bool true))) := fun W hW => EqI_eq W A A2 n c c2 x.its (h.2.1.later hW) (h2.2.1.later hW) hn
  have HE2 : Hid (∀ W, Only (w.heap.size ≤ ·) w W → Calls Tryd.prog 44 #[.slice B m d, .slice B2 m d2, .func (.func 45) #[] #[]] W (Told W (.bool true))) := fun W hW => EqK_eq W B B2 m d d2 x.kds (h.2.2.later hW) (h2.2.2.later hW) hm
  clear h h2 hW0
  have hmf : ∀ (fn : Fn) (first cap : Array Value) (w : World), (Instr.makeFunc fn first cap).run Tryd.prog w = .ok (.func fn first cap) w := fun _ _ _ _ => rfl
  go_enter Tryd.func16, Tryd.ntmps16
  rw [HW0.out] at HI HJ HO
  clear HW0
  go_wp2_with (first
    | (go_at_call 42; (with_reducible refine (HE1.out _ HO.out).mono ?_); rintro e w1 ⟨rfl, ho⟩; (replace HI := Lib.hid (HI.out.later ho)); (replace HJ := Lib.hid (HJ.out.later ho)); (replace HO := Lib.hid (on_new HO.out ho)); (obtain ⟨i0, i1, i2⟩ := HI.out.tri); (obtain ⟨k0, k1, k2⟩ := HJ.out.tri); clear ho)
    | (go_at_call 44; (with_reducible refine (HE2.out _ HO.out).mono ?_); rintro e w2 ⟨rfl, ho⟩; (replace HO := Lib.hid (on_new HO.out ho)); clear ho))
  go_ret
  exact ⟨by first | rfl | (cases f <;> rfl), HO.out⟩

/-- So few items and kids that all ends soon. -/
def Few (x : Nd) : Prop := x.its.length ≤ 60 ∧ x.kds.length ≤ 60 ∧ (∀ i ∈ x.its, i.1.length ≤ 60 ∧ i.2.1.length ≤ 500) ∧ (∀ i ∈ x.kds, i.1.length ≤ 60)
theorem Few.small {x : Nd} (h : Few x) : Small x := ⟨by have := h.1; omega, by have := h.2.1; omega, fun i hi => ⟨Nat.le_trans (h.2.2.1 i hi).1 (by omega), Nat.le_trans (h.2.2.1 i hi).2 (by omega)⟩, fun i hi => Nat.le_trans (h.2.2.2 i hi) (by omega)⟩
theorem mem_lt {α : Type} {l : List α} {P : α → Prop} (h : ∀ j x, j < l.length → l[j]? = some x → P x) : ∀ x ∈ l, P x := fun x hx => by
  obtain ⟨j, hj⟩ := List.getElem?_of_mem hx
  exact h j x (List.getElem?_eq_some_iff.1 hj).1 hj
set_option maxRecDepth 100000 in
set_option maxHeartbeats 12800000 in
theorem few_c (w : World) (f : Bool) (A B : Option Addr) (n c m d : Nat) (x : Nd) (b : Bool) (hb : b = true ↔ Few x) (h : Nod w x f (.slice A n c) (.slice B m d)) :
    Calls Tryd.prog 6 #[.agg #[.bool f, .slice A n c, .slice B m d]] w (Told w (.bool b)) := by
  obtain ⟨W0, hW0⟩ : ∃ W0, W0 = (w.alloc (.cells #[.bool f, .slice A n c, .slice B m d] 25)) := ⟨_, rfl⟩
  have HO : Hid (Only (w.heap.size ≤ ·) w W0) := Lib.hid (by rw [hW0]; exact (Only.refl _ w).alloc (fun _ h => h) _)
  have HI : Hid (Blk W0 w.heap.size 25 [.bool f, .slice A n c, .slice B m d]) := Lib.hid (by rw [hW0]; exact Blk.new w 25 _)
  have HW0 := Lib.hid hW0
  have hc1 := h.2.1.cap
  have hc2 := h.2.2.cap
  have HNL := Lib.hid h.2.1.len
  have HML := Lib.hid h.2.2.len
  have HIT : Hid (∀ W, Only (w.heap.size ≤ ·) w W → ∀ k, k < n → ∃ (b off : Nat) (y : It) (P Q : Option Addr) (p q : Nat), A = some ⟨b, off, none⟩ ∧ x.its[k]? = some y ∧ W.cell? ⟨b, off + k * 4, none⟩ = some (.slice P y.1.length p) ∧ W.cell? ⟨b, off + k * 4 + 1, none⟩ = some (.slice Q y.2.1.length q) ∧ W.cell? ⟨b, off + k * 4 + 2, none⟩ = some (.int .i64 y.2.2.1) ∧ W.cell? ⟨b, off + k * 4 + 3, none⟩ = some (.int .i64 y.2.2.2)) := fun W hW k hk => by
    obtain ⟨b, off, y, P, Q, p, q, e, _, hy, q0, q1, q2, q3, _, _⟩ := its_at (h.2.1.later hW) hk
    exact ⟨b, off, y, P, Q, p, q, e, hy, q0, q1, q2, q3⟩
  have HKD : Hid (∀ W, Only (w.heap.size ≤ ·) w W → ∀ k, k < m → ∃ (b off : Nat) (y : Kd) (P : Option Addr) (p : Nat), B = some ⟨b, off, none⟩ ∧ x.kds[k]? = some y ∧ W.cell? ⟨b, off + k * 2, none⟩ = some (.slice P y.1.length p) ∧ W.cell? ⟨b, off + k * 2 + 1, none⟩ = some (.int .i64 y.2)) := fun W hW k hk => by
    obtain ⟨b, off, y, P, p, e, _, hy, q0, q1, _⟩ := kds_at (h.2.2.later hW) hk
    exact ⟨b, off, y, P, p, e, hy, q0, q1⟩
  have HB := Lib.hid hb
  clear h hb hW0
  by_cases hn : 60 < (n : Int)
  · obtain rfl : b = false := by rw [← Bool.not_eq_true]; intro hh; have := (HB.out.1 hh).1; rw [← HNL.out] at this; omega
    rw [HW0.out] at HO
    go_enter Tryd.func6, Tryd.ntmps6
    go_wp2
    go_ret
    exact ⟨rfl, HO.out⟩
  by_cases hm : 60 < (m : Int)
  · obtain rfl : b = false := by rw [← Bool.not_eq_true]; intro hh; have := (HB.out.1 hh).2.1; rw [← HML.out] at this; omega
    rw [HW0.out] at HO
    go_enter Tryd.func6, Tryd.ntmps6
    go_wp2
    go_ret
    exact ⟨rfl, HO.out⟩
  go_enter Tryd.func6, Tryd.ntmps6
  go_wp2
  rw [← HW0.out]
  clear HW0
  go_loopw [20] (fun i wr => ∃ (k : Nat), k ≤ n ∧ i = .int .i64 k ∧ Hid (∀ j y, j < k → x.its[j]? = some y → y.1.length ≤ 60 ∧ y.2.1.length ≤ 500) ∧ Only (W0.heap.size ≤ ·) W0 wr) (fun i _ => n - (intOf i).toNat)
  case atStart => exact ⟨0, Nat.zero_le _, rfl, fun j y hj => by omega, Only.refl _ _⟩
  case round =>
    obtain ⟨k, hk, rfl, HK, ho⟩ := hrel
    have HOL := Lib.hid ho
    have HOR := Lib.hid (on_new HO.out ho)
    obtain ⟨i0, i1, i2⟩ := (HI.out.later ho).tri
    clear ho
    by_cases hlt : k < n
    · obtain ⟨bb, off, y, P, Q, p, q, rfl, hy, q0, q1, q2, q3⟩ := HIT.out _ HOR.out k hlt
      have HY := Lib.hid hy
      obtain ⟨xs, ys, s, r⟩ := y
      obtain ⟨t, ht⟩ : ∃ t, t = xs.length := ⟨_, rfl⟩
      obtain ⟨u, hu⟩ : ∃ u, u = ys.length := ⟨_, rfl⟩
      simp only at q0 q1 q2 q3
      rw [← ht] at q0
      rw [← hu] at q1
      have HTU := Lib.hid (And.intro ht hu)
      have j1 : (0 : Int) ≤ (k : Int) := by omega
      have j2 : (k : Int) < (n : Int) := by omega
      clear hy ht hu
      have HO1 : Hid (Only (W0.heap.size ≤ ·) W0 (wr.alloc (.cells #[.slice P t p, .slice Q u q, .int .i64 s, .int .i64 r] 52))) := HOL.out.alloc (fun _ h => h) _
      by_cases h1 : 60 < (t : Int)
      · obtain rfl : b = false := by rw [← Bool.not_eq_true]; intro hh; have := (HB.out.1 hh).2.2.1 _ (List.mem_of_getElem? HY.out); have := this.1; rw [← HTU.out.1] at this; omega
        go_wp2
        go_ret
        exact ⟨rfl, on_new HO.out HO1.out⟩
      by_cases h2 : 500 < (u : Int)
      · obtain rfl : b = false := by rw [← Bool.not_eq_true]; intro hh; have := (HB.out.1 hh).2.2.1 _ (List.mem_of_getElem? HY.out); have := this.2; rw [← HTU.out.2] at this; omega
        go_wp2
        go_ret
        exact ⟨rfl, on_new HO.out HO1.out⟩
      have HN : Hid (∀ j y, j < k + 1 → x.its[j]? = some y → y.1.length ≤ 60 ∧ y.2.1.length ≤ 500) := fun j y hj hjy => by
        by_cases e : j = k
        · subst e
          obtain rfl := Option.some.inj (HY.out.symm.trans hjy)
          exact ⟨by show xs.length ≤ 60; rw [← HTU.out.1]; omega, by show ys.length ≤ 500; rw [← HTU.out.2]; omega⟩
        · exact HK.out j y (by omega) hjy
      go_wp2
      go_roundw
      case rel => exact ⟨k + 1, by omega, by go_num, HN, HO1.out⟩
      case measure => simp [intOf]; omega
    · obtain rfl : n = k := by omega
      have hkm : ¬ (n : Int) < (n : Int) := by omega
      have HALL := HK
      clear HK
      go_wp2
      clear hkm i0 i1 i2
      obtain ⟨wn, hwn⟩ : ∃ wn, wn = wr := ⟨_, rfl⟩
      subst hwn
      go_loopw [38] (fun i wr => ∃ (k : Nat), k ≤ m ∧ i = .int .i64 k ∧ Hid (∀ j y, j < k → x.kds[j]? = some y → y.1.length ≤ 60) ∧ Only (wn.heap.size ≤ ·) wn wr) (fun i _ => m - (intOf i).toNat)
      case atStart => exact ⟨0, Nat.zero_le _, rfl, fun j y hj => by omega, Only.refl _ _⟩
      case round =>
        obtain ⟨k, hk, rfl, HK, ho⟩ := hrel
        have HOM := Lib.hid ho
        have HOR2 := Lib.hid (on_new HOR.out ho)
        clear ho
        by_cases hlt : k < m
        · obtain ⟨bb, off, y, P, p, rfl, hy, q0, q1⟩ := HKD.out _ HOR2.out k hlt
          have HY := Lib.hid hy
          obtain ⟨xs, r⟩ := y
          obtain ⟨t, ht⟩ : ∃ t, t = xs.length := ⟨_, rfl⟩
          simp only at q0 q1
          rw [← ht] at q0
          have HT := Lib.hid ht
          have j1 : (0 : Int) ≤ (k : Int) := by omega
          have j2 : (k : Int) < (m : Int) := by omega
          clear hy ht
          have HO1 : Hid (Only (wn.heap.size ≤ ·) wn (wr.alloc (.cells #[.slice P t p, .int .i64 r] 29))) := HOM.out.alloc (fun _ h => h) _
          by_cases h1 : 60 < (t : Int)
          · obtain rfl : b = false := by rw [← Bool.not_eq_true]; intro hh; have := (HB.out.1 hh).2.2.2 _ (List.mem_of_getElem? HY.out); rw [← HT.out] at this; omega
            go_wp2
            go_ret
            exact ⟨rfl, on_new HOR.out HO1.out⟩
          have HN : Hid (∀ j y, j < k + 1 → x.kds[j]? = some y → y.1.length ≤ 60) := fun j y hj hjy => by
            by_cases e : j = k
            · subst e
              obtain rfl := Option.some.inj (HY.out.symm.trans hjy)
              show xs.length ≤ 60
              rw [← HT.out]; omega
            · exact HK.out j y (by omega) hjy
          go_wp2
          go_roundw
          case rel => exact ⟨k + 1, by omega, by go_num, HN, HO1.out⟩
          case measure => simp [intOf]; omega
        · obtain rfl : m = k := by omega
          have hkm : ¬ (m : Int) < (m : Int) := by omega
          obtain rfl : b = true := HB.out.2 ⟨by rw [← HNL.out]; omega, by rw [← HML.out]; omega, mem_lt fun j y hj hy => HALL.out j y (by rw [HNL.out]; exact hj) hy, mem_lt fun j y hj hy => HK.out j y (by rw [HML.out]; exact hj) hy⟩
          go_wp2
          go_ret
          exact ⟨rfl, HOR2.out⟩
end Go.Proofs.YtjbbljnfgpggkaaDoor
