/-
  A pool: tail.
-/
import Derived.Test.YtmadlckladohbaaGreatPsm
import Derived.Test.YtmadlckladohbaaGreatStp
set_option linter.unusedVariables false
namespace Go.Proofs.YtmadlckladohbaaGreat
open Go.RowKit

/-- From a on all pages are free up to the end; the one ahead is not. -/
def IsTail (S : PS) (a : Int) : Prop := (∀ p, a ≤ p → p < S.pages → S.F p) ∧ 0 ≤ a ∧ a ≤ S.pages ∧ ¬ S.F (a - 1)
theorem IsTail.uniq {S : PS} {a b : Int} (h : IsTail S a) (k : IsTail S b) : a = b := by
  obtain ⟨h1, h2, h3, h4⟩ := h
  obtain ⟨k1, k2, k3, k4⟩ := k
  rcases Int.lt_trichotomy a b with h | h | h
  · exact absurd (h1 (b - 1) (by omega) (by omega)) k4
  · exact h
  · exact absurd (k1 (a - 1) (by omega) (by omega)) h4
theorem tail_end {S : PS} (hok : S.Ok) (h : ¬ S.F (S.pages - 1)) : IsTail S S.pages := ⟨fun p h1 h2 => by omega, by have := hok.lo; omega, Int.le_refl _, h⟩
theorem tail_all {S : PS} {fl : List R} (hok : S.Ok) (hr : IsRow fl S.F) : IsRow fl (fun p => S.F p ∧ p < S.pages) := hr.congr fun p => ⟨fun h => ⟨h, (hok.free p h).2⟩, fun h => h.1⟩
theorem tail_nil {S : PS} (hr : IsRow [] S.F) (p : Int) : ¬ S.F p := fun h => by
  have := (hr.2 p).2 h
  simp [inn] at this
theorem tail_last {S : PS} {fl : List R} (hok : S.Ok) (hr : IsRow fl S.F) {x : R} (hx : fl.getLast? = some x) :
    may x = true ∧ x.1 + x.2 ≤ S.pages ∧ (x.1 + x.2 < S.pages → ¬ S.F (S.pages - 1)) ∧ (¬ x.1 + x.2 < S.pages → IsTail S x.1 ∧ IsRow fl.dropLast (fun p => S.F p ∧ p < x.1)) := by
  have hs := snoc_of hx
  have hmx := right_may hr.1 x (List.mem_of_getLast? hx)
  have hm := (may_iff x).1 hmx
  have hlt : ∀ p, S.F p → p < x.1 + x.2 := fun p hp => last_ge hr.1 hx ((hr.2 p).2 hp)
  have hin : ∀ p, within x p → S.F p := fun p hp => (hr.2 p).1 ((inn_iff _ _).2 ⟨x, List.mem_of_getLast? hx, hp⟩)
  have hend := (hok.free _ (hin (x.1 + x.2 - 1) ⟨by omega, by omega⟩)).2
  have hsr := hr.1
  rw [hs] at hsr
  obtain ⟨h1, h2, h3⟩ := right_snoc.1 hsr
  have hahead : ∀ p, inn fl.dropLast p = true → p + 1 < x.1 := fun p hp => by
    cases hd : fl.dropLast.getLast? with
    | none =>
      have : fl.dropLast = [] := List.getLast?_eq_none_iff.1 hd
      rw [this] at hp
      simp [inn] at hp
    | some q =>
      have := last_ge h1 hd hp
      rw [hd, gap_some] at h3
      omega
  have hall : ∀ p, S.F p ↔ inn fl.dropLast p = true ∨ within x p := fun p => by
    rw [← hr.2 p]
    conv => lhs; rw [hs]
    rw [inn_append, inn_cons]
    simp [inn]
  refine ⟨hmx, by omega, fun h hp => by have := hlt _ hp; omega, fun h => ⟨⟨fun p h1 h2 => hin p ⟨h1, by omega⟩, by omega, by omega, fun hp => ?_⟩, h1, fun p => ?_⟩⟩
  · rcases (hall _).1 hp with h | h
    · have := hahead _ h; omega
    · unfold within at h; omega
  · show inn fl.dropLast p = true ↔ S.F p ∧ p < x.1
    rw [hall p]
    constructor
    · intro h
      exact ⟨.inl h, by have := hahead _ h; omega⟩
    · rintro ⟨h | h, hp⟩
      · exact h
      · unfold within at h; omega
theorem AtD.drew {w : World} {pb mb n : Nat} {S : PS} {fv : Value} {fl : List R} {D : DataW Value} (h : AtD w pb mb n S fv fl D) : AtD w.drew pb mb n S fv fl D := h.later (Only.refl _ w).drew
theorem AtD.drewN {w : World} {pb mb n : Nat} {S : PS} {fv : Value} {fl : List R} {D : DataW Value} (h : AtD w pb mb n S fv fl D) (k : Nat) : AtD (w.drewN k) pb mb n S fv fl D := h.later ((Only.refl _ w).drewN k)

def TailSays (w : World) (pb : Nat) (S : PS) (e : Ending) (w' : World) : Prop :=
  ∃ a v l, e = .returned (.tuple #[.int .i64 a, v]) ∧ Row w' v l ∧ Off pb v l ∧ IsTail S a ∧ IsRow l (fun p => S.F p ∧ p < a) ∧ Only (w.heap.size ≤ ·) w w'

set_option maxRecDepth 100000 in
set_option maxHeartbeats 6400000 in
theorem tail_c (w : World) (pb mb n : Nat) (S : PS) (h : At w pb mb n S) (hok : S.Ok) : Calls Tryz.prog 38 #[.pointer (some ⟨pb, 0, none⟩)] w (TailSays w pb S) := by
  obtain ⟨fv, fl, D, h⟩ := h
  have HAT := Lib.hid h
  have HO : Hid (Only (w.heap.size ≤ ·) w w) := Lib.hid (Only.refl _ w)
  have HOK := Lib.hid hok
  obtain ⟨h1, h2, h3, h4, h5, h6⟩ := h
  obtain ⟨A, cc, rfl, hrs, hA0, hlc, hcm⟩ := h2
  have HROW : Hid (Row w (.slice A fl.length cc) fl) := Lib.hid ⟨A, cc, rfl, hrs, hA0, hlc, hcm⟩
  have HEE := Lib.hid fun (W : World) (hW : Only (w.heap.size ≤ ·) w W) => End_c W (.slice A fl.length cc) fl (HROW.out.later hW) (i64_of h4.1)
  have HR := Lib.hid h4
  have HOFF := Lib.hid h3
  have hlen := right_length h4.1
  obtain ⟨E, hE⟩ : ∃ E, E = endOf (known fl) := ⟨_, rfl⟩
  have HE : Hid (∀ W, Only (w.heap.size ≤ ·) w W → Calls Tryz.prog 26 #[.slice A fl.length cc] W (Told W (.int .i64 E))) := Lib.hid fun W hW => by rw [hE]; exact HEE.out W hW
  have HEQ := Lib.hid hE
  have HRS := Lib.hid hrs
  clear h1 h5 h6 HEE hE
  obtain ⟨c0, c1, c2, c3⟩ := HAT.out.cells
  obtain ⟨nn, hnn⟩ : ∃ nn, nn = fl.length := ⟨_, rfl⟩
  have HNN := Lib.hid hnn
  rw [← hnn] at HAT HROW HE HOFF hlen c2 hlc
  obtain ⟨pg, hpg⟩ : ∃ pg, pg = S.pages := ⟨_, rfl⟩
  have HPG := Lib.hid hpg
  rw [← hpg] at c0
  have hpr : 2 ≤ pg ∧ pg ≤ 16384 := by rw [hpg]; exact ⟨hok.lo, Int.le_trans hok.hi hok.top⟩
  have KC0 : Hid (∀ W, Only (w.heap.size ≤ ·) w W → W.cell? ⟨pb, 0, none⟩ = some (.int .i64 pg) ∧ W.cell? ⟨pb, 2, none⟩ = some (.slice A nn cc)) := Lib.hid fun W hW => ⟨by have := (HAT.out.later hW).cells.1; rwa [← hpg] at this, (HAT.out.later hW).cells.2.2.1⟩
  clear hnn hpg c1 c3 hok h3 h4 hrs
  have hw1 : IntKind.i64.wrap ((nn : Int) - 1) = (nn : Int) - 1 := IntWalk.i64_in _ (by omega)
  by_cases h0 : nn = 0
  · subst h0
    have HROW0 : Hid (Row w (.slice A 0 cc) []) := Lib.hid (by have := HROW.out; rwa [List.eq_nil_of_length_eq_zero HNN.out.symm] at this)
    have HNF : Hid (∀ p, ¬ S.F p) := Lib.hid (by
      have := HR.out
      rw [List.eq_nil_of_length_eq_zero HNN.out.symm] at this
      exact tail_nil this)
    go_enter Tryz.func38, Tryz.ntmps38
    go_upto_region 2 with (fail)
    replace HO := Lib.hid HO.out.drew
    refine wp_region_list (B := [false, false, false, false, false, false, false, false, false, false, false, false, false, false]) (S := (fun W => W.cell? ⟨pb, 0, none⟩ = some (.int .i64 pg) ∧ W.cell? ⟨pb, 2, none⟩ = some (.slice A 0 cc))) (by kernel_rfl) (by kernel_rfl) (by kernel_rfl) (KC0.out _ HO.out) (fun hsel hHeld => ?_)
    generalize hwz : World.drew _ = wz at HO hHeld ⊢
    clear hwz
    have HOZ := Lib.hid (Only.refl (wz.heap.size ≤ ·) wz)
    refine oneA 0 11 hsel (h := ?_)
    simp only [Act.put, List.setIfInBounds_toArray, List.set_cons_zero, List.set_cons_succ]
    refine oneA 1 12 hsel (h := ?_)
    simp only [Act.put, List.setIfInBounds_toArray, List.set_cons_zero, List.set_cons_succ]
    refine oneA 2 13 hsel (h := ?_)
    simp only [Act.put, List.setIfInBounds_toArray, List.set_cons_zero, List.set_cons_succ]
    refine take_skipL (i := 3) (d := 14) (oi := ?_) ?_ hsel (by kernel_rfl) (by kernel_rfl) (fun _ _ _ h => h) ?_ ?_ (by assumption) ?_
    case refine_2 => (simp only [List.getElem?_cons_succ, List.getElem?_cons_zero]; rfl)
    case refine_3 => rfl
    case refine_4 => rfl
    simp only [Act.put, List.setIfInBounds_toArray, List.set_cons_zero, List.set_cons_succ]
    refine take_skipL (i := 4) (d := 15) (oi := ?_) ?_ hsel (by kernel_rfl) (by kernel_rfl) (fun _ _ _ h => h) ?_ ?_ (by assumption) ?_
    case refine_2 => (simp only [List.getElem?_cons_succ, List.getElem?_cons_zero]; rfl)
    case refine_3 => rfl
    case refine_4 => rfl
    simp only [Act.put, List.setIfInBounds_toArray, List.set_cons_zero, List.set_cons_succ]
    refine take_skipL (i := 5) (d := 16) (oi := ?_) ?_ hsel (by kernel_rfl) (by kernel_rfl) (fun _ _ _ h => h) ?_ ?_ (by assumption) ?_
    case refine_2 => (simp only [List.getElem?_cons_succ, List.getElem?_cons_zero]; rfl)
    case refine_3 => rfl
    case refine_4 => rfl
    simp only [Act.put, List.setIfInBounds_toArray, List.set_cons_zero, List.set_cons_succ]
    refine take_skipL (i := 6) (d := 17) (oi := ?_) ?_ hsel (by kernel_rfl) (by kernel_rfl) (fun _ _ _ h => h) ?_ ?_ (by assumption) ?_
    case refine_2 => (simp only [List.getElem?_cons_succ, List.getElem?_cons_zero]; rfl)
    case refine_3 => rfl
    case refine_4 => rfl
    simp only [Act.put, List.setIfInBounds_toArray, List.set_cons_zero, List.set_cons_succ]
    refine take_skipL (i := 7) (d := 18) (oi := ?_) ?_ hsel (by kernel_rfl) (by kernel_rfl) (fun _ _ _ h => h) ?_ ?_ (by assumption) ?_
    case refine_2 => (simp only [List.getElem?_cons_succ, List.getElem?_cons_zero]; rfl)
    case refine_3 => rfl
    case refine_4 => rfl
    simp only [Act.put, List.setIfInBounds_toArray, List.set_cons_zero, List.set_cons_succ]
    refine take_skipL (i := 8) (d := 19) (oi := ?_) ?_ hsel (by kernel_rfl) (by kernel_rfl) (fun _ _ _ h => h) ?_ ?_ (by assumption) ?_
    case refine_2 => (simp only [List.getElem?_cons_succ, List.getElem?_cons_zero]; rfl)
    case refine_3 => rfl
    case refine_4 => rfl
    simp only [Act.put, List.setIfInBounds_toArray, List.set_cons_zero, List.set_cons_succ]
    refine take_skipL (i := 9) (d := 20) (oi := ?_) ?_ hsel (by kernel_rfl) (by kernel_rfl) (fun _ _ _ h => h) ?_ ?_ (by assumption) ?_
    case refine_2 => (simp only [List.getElem?_cons_succ, List.getElem?_cons_zero]; rfl)
    case refine_3 => rfl
    case refine_4 => rfl
    simp only [Act.put, List.setIfInBounds_toArray, List.set_cons_zero, List.set_cons_succ]
    refine take_skipL (i := 10) (d := 21) (oi := ?_) ?_ hsel (by kernel_rfl) (by kernel_rfl) (fun _ _ _ h => h) ?_ ?_ (by assumption) ?_
    case refine_2 => (simp only [List.getElem?_cons_succ, List.getElem?_cons_zero]; rfl)
    case refine_3 => rfl
    case refine_4 => rfl
    simp only [Act.put, List.setIfInBounds_toArray, List.set_cons_zero, List.set_cons_succ]
    refine take_skipL (i := 11) (d := 22) (oi := ?_) ?_ hsel (by kernel_rfl) (by kernel_rfl) (fun _ _ _ h => h) ?_ ?_ (by assumption) ?_
    case refine_2 => (simp only [List.getElem?_cons_succ, List.getElem?_cons_zero]; rfl)
    case refine_3 => rfl
    case refine_4 => rfl
    simp only [Act.put, List.setIfInBounds_toArray, List.set_cons_zero, List.set_cons_succ]
    refine take_skipL (i := 12) (d := 23) (oi := ?_) ?_ hsel (by kernel_rfl) (by kernel_rfl) (fun _ _ _ h => h) ?_ ?_ (by assumption) ?_
    case refine_2 => (simp only [List.getElem?_cons_succ, List.getElem?_cons_zero]; rfl)
    case refine_3 => rfl
    case refine_4 => rfl
    simp only [Act.put, List.setIfInBounds_toArray, List.set_cons_zero, List.set_cons_succ]
    refine oneA 13 24 hsel (h := ?_)
    simp only [Act.put, List.setIfInBounds_toArray, List.set_cons_zero, List.set_cons_succ]
    refine wpAnyL_done (by kernel_rfl) (by kernel_rfl) ?_ _
    clear hsel hHeld
    go_wp2_with (fail)
    obtain ⟨c0, c2⟩ := KC0.out wz HO.out
    go_quiet (fail)
    go_wp2
    go_ret2
    have hO : ∀ q, Only (w.heap.size ≤ ·) w (wz.drewN q) := fun q => HO.out.drewN _
    exact ⟨pg, _, [], rfl, HROW0.out.later (hO _), Off.nil_ _ _, by rw [HPG.out]; exact tail_end HOK.out (HNF.out _), by
      have := HR.out
      rw [List.eq_nil_of_length_eq_zero HNN.out.symm] at this
      rw [HPG.out]
      exact tail_all HOK.out this, hO _⟩
  · obtain ⟨k, rfl⟩ : ∃ k, nn = k + 1 := ⟨nn - 1, by omega⟩
    obtain ⟨b, off, x, rfl, hb, hx, q0, q1⟩ := HRS.out.at_ (k := k) (by rw [← HNN.out]; omega)
    have hlast : fl.getLast? = some x := by
      rw [List.getLast?_eq_getElem?, ← HNN.out]
      exact hx
    have hle : endOf (known fl) = x.1 + x.2 := by
      rw [known_of HR.out.1]
      unfold endOf
      rw [lastOf_some hlast]
    rw [← HEQ.out] at hle
    obtain ⟨t1, t2, t3, t4⟩ := tail_last HOK.out HR.out hlast
    have hm := (may_iff x).1 t1
    obtain ⟨x1, x2⟩ := x
    simp only at hle hm q0 q1 t2 t3 t4
    rw [← HPG.out] at t2 t3 t4
    have HXC : Hid (∀ W, Only (w.heap.size ≤ ·) w W → W.cell? ⟨b, off + k * 2, none⟩ = some (.int .i64 x1)) := Lib.hid fun W hW => (hW.cell (p := ⟨b, off + k * 2, none⟩) (Nat.not_le.2 hb)).trans q0
    have HT3 := Lib.hid t3
    have HT4 := Lib.hid t4
    have HLD : Hid (fl.dropLast = fl.take k) := Lib.hid (by rw [List.dropLast_eq_take, ← HNN.out]; rfl)
    clear hx hlast t1 t3 t4 q0 q1
    have hw2 : IntKind.i64.wrap (((k : Int) + 1) - 1) = (k : Int) := by rw [show ((k : Int) + 1) - 1 = (k : Int) by omega]; exact IntWalk.i64_in _ (by omega)
    have hk0 : ¬ (k : Int) < 0 := by omega
    have hk1 : decide ((k : Int) < 0) = false := decide_eq_false hk0
    by_cases hlt : E < pg
    · have hd : decide (E < pg) = true := decide_eq_true hlt
      go_enter Tryz.func38, Tryz.ntmps38
      go_upto_region 2 with (fail)
      replace HO := Lib.hid HO.out.drew
      refine wp_region_list (B := [false, false, false, false, false, false, false, false, false, false, false, false, false, false]) (S := (fun W => W.cell? ⟨pb, 0, none⟩ = some (.int .i64 pg) ∧ W.cell? ⟨pb, 2, none⟩ = some (.slice (some ⟨b, off, none⟩) (k + 1) cc))) (by kernel_rfl) (by kernel_rfl) (by kernel_rfl) (KC0.out _ HO.out) (fun hsel hHeld => ?_)
      generalize hwz : World.drew _ = wz at HO hHeld ⊢
      clear hwz
      have HOZ := Lib.hid (Only.refl (wz.heap.size ≤ ·) wz)
      have KC : Hid (∀ W, Only (wz.heap.size ≤ ·) wz W → W.cell? ⟨pb, 0, none⟩ = some (.int .i64 pg) ∧ W.cell? ⟨pb, 2, none⟩ = some (.slice (some ⟨b, off, none⟩) (k + 1) cc)) := Lib.hid fun W hW => KC0.out W (on_new HO.out hW)
      replace HE : Hid (∀ W, Only (wz.heap.size ≤ ·) wz W → Calls Tryz.prog 26 #[.slice (some ⟨b, off, none⟩) (k + 1) cc] W (Told W (.int .i64 E))) := Lib.hid fun W hW => HE.out W (on_new HO.out hW)
      refine oneA 0 11 hsel (h := ?_)
      simp only [Act.put, List.setIfInBounds_toArray, List.set_cons_zero, List.set_cons_succ]
      refine oneA 1 12 hsel (h := ?_)
      simp only [Act.put, List.setIfInBounds_toArray, List.set_cons_zero, List.set_cons_succ]
      refine oneA 2 13 hsel (h := ?_)
      simp only [Act.put, List.setIfInBounds_toArray, List.set_cons_zero, List.set_cons_succ]
      refine oneA 3 14 hsel (h := ?_)
      simp only [Act.put, List.setIfInBounds_toArray, List.set_cons_zero, List.set_cons_succ]
      refine oneA 4 15 hsel (h := ?_)
      simp only [Act.put, List.setIfInBounds_toArray, List.set_cons_zero, List.set_cons_succ]
      refine oneA 5 16 hsel (h := ?_)
      simp only [Act.put, List.setIfInBounds_toArray, List.set_cons_zero, List.set_cons_succ]
      refine oneA 6 17 hsel (h := ?_)
      simp only [Act.put, List.setIfInBounds_toArray, List.set_cons_zero, List.set_cons_succ]
      refine oneA 8 19 hsel (h := ?_)
      simp only [Act.put, List.setIfInBounds_toArray, List.set_cons_zero, List.set_cons_succ]
      refine oneA 9 20 hsel (h := ?_)
      simp only [Act.put, List.setIfInBounds_toArray, List.set_cons_zero, List.set_cons_succ]
      refine oneA 10 21 hsel (h := ?_)
      simp only [Act.put, List.setIfInBounds_toArray, List.set_cons_zero, List.set_cons_succ]
      refine oneA 11 22 hsel (h := ?_)
      simp only [Act.put, List.setIfInBounds_toArray, List.set_cons_zero, List.set_cons_succ]
      refine wpAnyL_ready (rs := [7]) (by kernel_rfl) (by kernel_rfl) (by simp) ?_
      refine AllReadyL.cons (o := ?_) ?_ (fun K hK => ?_) AllReadyL.nil
      case refine_2 => (simp only [List.getElem?_cons_succ, List.getElem?_cons_zero]; rfl)
      go_simp
      (go_at_call 26; (with_reducible refine (HE.out _ HOZ.out).mono ?_); rintro ee w1 ⟨rfl, ho⟩; (replace HOZ := Lib.hid (on_new HOZ.out ho)); clear ho)
      go_wp2_with (fail)
      clear hHeld
      refine hK.out _ _ (KC.out _ HOZ.out) (fun hHeld => ?_)
      clear hK K
      try simp only [Act.put, List.setIfInBounds_toArray, List.set_cons_zero, List.set_cons_succ]
      refine oneA 12 23 hsel (h := ?_)
      simp only [Act.put, List.setIfInBounds_toArray, List.set_cons_zero, List.set_cons_succ]
      refine oneA 13 24 hsel (h := ?_)
      simp only [Act.put, List.setIfInBounds_toArray, List.set_cons_zero, List.set_cons_succ]
      refine wpAnyL_done (by kernel_rfl) (by kernel_rfl) ?_ _
      clear hsel hHeld
      go_wp2_with (fail)
      obtain ⟨c0, c2⟩ := KC0.out w1 (on_new HO.out HOZ.out)
      go_quiet (fail)
      go_wp2
      go_ret2
      have hO : ∀ q, Only (w.heap.size ≤ ·) w (w1.drewN q) := fun q => (on_new HO.out HOZ.out).drewN _
      exact ⟨pg, _, fl, rfl, HROW.out.later (hO _), HOFF.out, by rw [HPG.out]; exact tail_end HOK.out (by have := HT3.out (by omega); rwa [HPG.out] at this), by rw [HPG.out]; exact tail_all HOK.out HR.out, hO _⟩
    · have hd : decide (E < pg) = false := decide_eq_false hlt
      have hk2 : (k : Int) < ((k + 1 : Nat) : Int) := by omega
      have htl : (fl.take k).length = k := by rw [List.length_take, ← HNN.out]; omega
      have HRW : Hid (Row w (.slice (some ⟨b, off, none⟩) k cc) (fl.take k)) := Lib.hid ⟨_, cc, by rw [htl], HRS.out.take k, (fun e => by cases e), by rw [htl]; omega, hcm⟩
      have HOF : Hid (Off pb (.slice (some ⟨b, off, none⟩) k cc) (fl.take k)) := Lib.hid fun hn b' off' n' c' e => by
        simp only [Value.slice.injEq, Option.some.injEq, Addr.mk.injEq] at e
        rw [← e.1.1]
        exact HOFF.out (by rw [← HNN.out]; omega) b off _ _ rfl
      clear htl
      have hk3 : (0 : Int) ≤ (k : Int) := by omega
      go_enter Tryz.func38, Tryz.ntmps38
      go_upto_region 2 with (fail)
      replace HO := Lib.hid HO.out.drew
      refine wp_region_list (B := [false, false, false, false, false, false, false, false, false, false, false, false, false, false]) (S := (fun W => W.cell? ⟨pb, 0, none⟩ = some (.int .i64 pg) ∧ W.cell? ⟨pb, 2, none⟩ = some (.slice (some ⟨b, off, none⟩) (k + 1) cc))) (by kernel_rfl) (by kernel_rfl) (by kernel_rfl) (KC0.out _ HO.out) (fun hsel hHeld => ?_)
      generalize hwz : World.drew _ = wz at HO hHeld ⊢
      clear hwz
      have HOZ := Lib.hid (Only.refl (wz.heap.size ≤ ·) wz)
      have KC : Hid (∀ W, Only (wz.heap.size ≤ ·) wz W → W.cell? ⟨pb, 0, none⟩ = some (.int .i64 pg) ∧ W.cell? ⟨pb, 2, none⟩ = some (.slice (some ⟨b, off, none⟩) (k + 1) cc)) := Lib.hid fun W hW => KC0.out W (on_new HO.out hW)
      replace HE : Hid (∀ W, Only (wz.heap.size ≤ ·) wz W → Calls Tryz.prog 26 #[.slice (some ⟨b, off, none⟩) (k + 1) cc] W (Told W (.int .i64 E))) := Lib.hid fun W hW => HE.out W (on_new HO.out hW)
      refine oneA 0 11 hsel (h := ?_)
      simp only [Act.put, List.setIfInBounds_toArray, List.set_cons_zero, List.set_cons_succ]
      refine oneA 1 12 hsel (h := ?_)
      simp only [Act.put, List.setIfInBounds_toArray, List.set_cons_zero, List.set_cons_succ]
      refine oneA 2 13 hsel (h := ?_)
      simp only [Act.put, List.setIfInBounds_toArray, List.set_cons_zero, List.set_cons_succ]
      refine oneA 3 14 hsel (h := ?_)
      simp only [Act.put, List.setIfInBounds_toArray, List.set_cons_zero, List.set_cons_succ]
      refine oneA 4 15 hsel (h := ?_)
      simp only [Act.put, List.setIfInBounds_toArray, List.set_cons_zero, List.set_cons_succ]
      refine oneA 5 16 hsel (h := ?_)
      simp only [Act.put, List.setIfInBounds_toArray, List.set_cons_zero, List.set_cons_succ]
      refine oneA 6 17 hsel (h := ?_)
      simp only [Act.put, List.setIfInBounds_toArray, List.set_cons_zero, List.set_cons_succ]
      refine oneA 8 19 hsel (h := ?_)
      simp only [Act.put, List.setIfInBounds_toArray, List.set_cons_zero, List.set_cons_succ]
      refine oneA 9 20 hsel (h := ?_)
      simp only [Act.put, List.setIfInBounds_toArray, List.set_cons_zero, List.set_cons_succ]
      refine oneA 10 21 hsel (h := ?_)
      simp only [Act.put, List.setIfInBounds_toArray, List.set_cons_zero, List.set_cons_succ]
      refine oneA 11 22 hsel (h := ?_)
      simp only [Act.put, List.setIfInBounds_toArray, List.set_cons_zero, List.set_cons_succ]
      refine wpAnyL_ready (rs := [7]) (by kernel_rfl) (by kernel_rfl) (by simp) ?_
      refine AllReadyL.cons (o := ?_) ?_ (fun K hK => ?_) AllReadyL.nil
      case refine_2 => (simp only [List.getElem?_cons_succ, List.getElem?_cons_zero]; rfl)
      go_simp
      (go_at_call 26; (with_reducible refine (HE.out _ HOZ.out).mono ?_); rintro ee w1 ⟨rfl, ho⟩; (replace HOZ := Lib.hid (on_new HOZ.out ho)); clear ho)
      go_wp2_with (fail)
      clear hHeld
      refine hK.out _ _ (KC.out _ HOZ.out) (fun hHeld => ?_)
      clear hK K
      try simp only [Act.put, List.setIfInBounds_toArray, List.set_cons_zero, List.set_cons_succ]
      refine oneA 12 23 hsel (h := ?_)
      simp only [Act.put, List.setIfInBounds_toArray, List.set_cons_zero, List.set_cons_succ]
      refine oneA 13 24 hsel (h := ?_)
      simp only [Act.put, List.setIfInBounds_toArray, List.set_cons_zero, List.set_cons_succ]
      refine wpAnyL_done (by kernel_rfl) (by kernel_rfl) ?_ _
      clear hsel hHeld
      go_wp2_with (fail)
      obtain ⟨c0, c2⟩ := KC0.out w1 (on_new HO.out HOZ.out)
      have q0 := HXC.out w1 (on_new HO.out HOZ.out)
      go_quiet (fail)
      go_wp2
      go_ret2
      have hO : ∀ q, Only (w.heap.size ≤ ·) w (w1.drewN q) := fun q => (on_new HO.out HOZ.out).drewN _
      exact ⟨x1, _, fl.take k, rfl, HRW.out.later (hO _), HOF.out, (HT4.out (by omega)).1, by have := (HT4.out (by omega)).2; rwa [HLD.out] at this, hO _⟩
end Go.Proofs.YtmadlckladohbaaGreat
