/-
  A pool: Take and Grow.
-/
import Derived.Test.YtmadlckladohbaaGreatPtl
set_option linter.unusedVariables false
namespace Go.Proofs.YtmadlckladohbaaGreat
open Go.RowKit

/-- The first run that has room. -/
def First (l : List R) (m : Int) (k : Nat) (r : R) : Prop := 1 ≤ m ∧ (known l)[k]? = some r ∧ m ≤ r.2 ∧ ∀ j y, j < k → (known l)[j]? = some y → y.2 < m
def NoRoom (l : List R) (m : Int) : Prop := m < 1 ∨ ∀ r ∈ known l, r.2 < m
theorem first_or : ∀ (l : List R) (m : Int), NoRoom l m ∨ ∃ k r, First l m k r := by
  intro l m
  by_cases hm : m < 1
  · exact .inl (.inl hm)
  · cases hf : (known l).findIdx? (fun r => decide (m ≤ r.2)) with
    | none =>
      rw [List.findIdx?_eq_none_iff] at hf
      exact .inl (.inr fun r hr => by have := hf r hr; simp at this; exact this)
    | some k =>
      rw [List.findIdx?_eq_some_iff_getElem] at hf
      obtain ⟨hk, h1, h2⟩ := hf
      refine .inr ⟨k, (known l)[k], by omega, List.getElem?_eq_getElem hk, by simpa using h1, fun j y hj hy => ?_⟩
      obtain ⟨hjl, rfl⟩ := List.getElem?_eq_some_iff.1 hy
      have := h2 j hj
      simpa using this
def NotTaken (W : World) (l : List R) (e : Ending) (w' : World) : Prop := (∃ A n c, e = .returned (.tuple #[.int .i64 0, .slice A n c, .bool false])) ∧ Only (W.heap.size ≤ ·) W w'
theorem Take_no (W : World) (v : Value) (l : List R) (m : Int) (h : Row W v l) (hr : ∀ y ∈ l, I64 y) (hno : NoRoom l m) : Calls Tryz.prog 37 #[v, .int .i64 m] W (NotTaken W l) :=
  (Take_c W v l m h hr).mono fun e w' ⟨a, v, n, u, b, h1, h2, h3, h4⟩ => by
    rcases h3 with ⟨rfl, rfl, _, rfl⟩ | ⟨_, hm, k, r, hk, hmr, _⟩
    · obtain ⟨A, n', c, rfl⟩ := h2.row.form
      exact ⟨⟨A, n', c, h1⟩, h4⟩
    · rcases hno with h | h
      · omega
      · have := h r (List.mem_of_getElem? hk); omega
def Taken (W : World) (l : List R) (m : Int) (r : R) (e : Ending) (w' : World) : Prop := (∃ A n c u, e = .returned (.tuple #[.int .i64 r.1, .slice A n c, .bool true]) ∧ OwnN w' W.heap.size (.slice A n c) n u ∧ IsRow u (fun p => Mem l p ∧ ¬ within (r.1, m) p)) ∧ Only (W.heap.size ≤ ·) W w'
theorem Take_yes (W : World) (v : Value) (l : List R) (m : Int) (k : Nat) (r : R) (h : Row W v l) (hr : ∀ y ∈ l, I64 y) (hf : First l m k r) : Calls Tryz.prog 37 #[v, .int .i64 m] W (Taken W l m r) :=
  (Take_c W v l m h hr).mono fun e w' ⟨a, v, n, u, b, h1, h2, h3, h4⟩ => by
    obtain ⟨f1, f2, f3, f4⟩ := hf
    rcases h3 with ⟨rfl, rfl, hno, rfl⟩ | ⟨rfl, hm, k', r', hk, hmr, hbef, rfl, hu⟩
    · rcases hno with h | h
      · omega
      · have := h r (List.mem_of_getElem? f2); omega
    · have : k' = k := by
        rcases Nat.lt_trichotomy k' k with h | h | h
        · have := f4 k' r' h hk; omega
        · exact h
        · have := hbef k r h f2; omega
      subst this
      rw [f2] at hk
      cases hk
      obtain ⟨A, c, rfl⟩ := h2.slice
      exact ⟨⟨A, n, c, u, h1, h2, hu⟩, h4⟩

def TookS (S : PS) (a m : Int) : PS := { S with F := fun p => S.F p ∧ ¬ within (a, m) p }
def GrewS (S : PS) (a m : Int) : PS := { S with pages := a + m, F := fun p => S.F p ∧ p < a }
def Arg (w : World) (e : Ending) (w' : World) : Prop := e = .returned (.tuple #[.int .i64 0, .int .i64 1]) ∧ Only (w.heap.size ≤ ·) w w'
theorem pTake_arg (w : World) (p : Value) (m : Int) (hm : m < 1) : Calls Tryz.prog 11 #[p, .int .i64 m] w (Arg w) := by
  go_enter Tryz.func11, Tryz.ntmps11
  go_wp2
  go_ret2
  exact ⟨rfl, Only.refl _ _⟩
theorem pGrow_arg (w : World) (p : Value) (m : Int) (hm : m < 1) : Calls Tryz.prog 17 #[p, .int .i64 m] w (Arg w) := by
  go_enter Tryz.func17, Tryz.ntmps17
  go_wp2
  go_ret2
  exact ⟨rfl, Only.refl _ _⟩

set_option maxRecDepth 100000 in
set_option maxHeartbeats 3200000 in
theorem pTake_yes (w : World) (pb mb n : Nat) (S : PS) (fv : Value) (fl : List R) (D : DataW Value) (m : Int) (k : Nat) (r : R) (h : AtD w pb mb n S fv fl D) (hf : First fl m k r) :
    Calls Tryz.prog 11 #[.pointer (some ⟨pb, 0, none⟩), .int .i64 m] w (Gone w pb mb n r.1 (TookS S r.1 m)) := by
  have HAT := Lib.hid h
  have HT := Lib.hid (Take_yes w fv fl m k r h.2.1 (i64_of h.2.2.2.1.1) hf)
  have HFR := Lib.hid h.2.2.2.1
  obtain ⟨c0, c1, c2, c3⟩ := h.cells
  have hm : ¬ m < 1 := by have := hf.1; omega
  have hlt := h.1.lt
  obtain ⟨A, nn, cc, rfl⟩ := h.2.1.form
  obtain ⟨r1, r2⟩ := r
  clear h hf c0 c1 c3
  go_enter Tryz.func11, Tryz.ntmps11
  go_wp2_with (go_at_call 37; (with_reducible refine HT.out.mono ?_); rintro e w1 ⟨⟨A1, n1, cc1, u, rfl, hv, hu⟩, ho⟩; have HV := Lib.hid hv; have HU := Lib.hid hu; have hat1 := HAT.out.later ho; have HA1 := Lib.hid hat1; have HO := Lib.hid ho; have d2 := hat1.cells.2.2.1; have f2 := hat1.frozen 2; clear hv hu ho hat1)
  go_ret2
  have hb := HA1.out.1
  have hO : Only (· = pb) w1 (w1.setCell ⟨pb, 2, none⟩ (.slice A1 n1 cc1)) := (Only.refl (fun k => k = pb) w1).setCell (p := ⟨pb, 2, none⟩) rfl _
  have hE : IsRow u (TookS S r1 m).F := HU.out.congr fun p => by
    show Mem fl p ∧ _ ↔ S.F p ∧ _
    rw [← HFR.out.2 p]
    unfold Mem
    rw [known_of HFR.out.1]
  exact ⟨rfl, ⟨_, u, D, HA1.out.put hO (hb.set_ 2 _) HV.out.row (own_off HV.out hlt) hE⟩, Touch.trans (Touch.new HO.out) (Only.mono hO fun k hk => .inr (.inl hk))⟩

set_option maxRecDepth 100000 in
set_option maxHeartbeats 3200000 in
theorem pTake_full (w : World) (pb mb n : Nat) (S : PS) (fv : Value) (fl : List R) (D : DataW Value) (m a : Int) (h : AtD w pb mb n S fv fl D) (hok : S.Ok) (hm : 1 ≤ m ∧ m ≤ 9223372036854775807) (hf : NoRoom fl m) (ha : IsTail S a) (hbig : S.limit - a < m) :
    Calls Tryz.prog 11 #[.pointer (some ⟨pb, 0, none⟩), .int .i64 m] w (Full w) := by
  have HAT := Lib.hid h
  have HT := Lib.hid (Take_no w fv fl m h.2.1 (i64_of h.2.2.2.1.1) hf)
  have HTL : Hid (∀ W, Only (w.heap.size ≤ ·) w W → Calls Tryz.prog 38 #[.pointer (some ⟨pb, 0, none⟩)] W (TailSays W pb S)) := Lib.hid fun W hW => tail_c W pb mb n S ⟨_, _, _, h.later hW⟩ hok
  have HEX : Hid (∀ W v, Only (w.heap.size ≤ ·) w W → Calls Tryz.prog 39 #[.pointer (some ⟨pb, 0, none⟩), .int .i64 a, .int .i64 m, v] W (Full W)) := Lib.hid fun W v hW => extend_no W pb mb n S a m v ⟨_, _, _, h.later hW⟩ hok ⟨ha.2.1, ha.2.2.1⟩ hm hbig
  obtain ⟨c0, c1, c2, c3⟩ := h.cells
  have hm1 : ¬ m < 1 := by omega
  obtain ⟨A, nn, cc, rfl⟩ := h.2.1.form
  have HA := Lib.hid ha
  clear h hf c0 c1 c3 hm hbig hok ha
  go_enter Tryz.func11, Tryz.ntmps11
  go_wp2_with (first
    | (go_at_call 37; (with_reducible refine HT.out.mono ?_); rintro e w1 ⟨⟨A1, n1, cc1, rfl⟩, ho⟩; have HO1 := Lib.hid ho; clear ho)
    | (go_at_call 38; (with_reducible refine (HTL.out w1 HO1.out).mono ?_); rintro e w2 ⟨a2, v2, l2, rfl, hv2, ho2, hi2, hr2, ho⟩; have HO2 := Lib.hid (on_new HO1.out ho); obtain rfl : a2 = a := IsTail.uniq hi2 HA.out; clear ho hv2 ho2 hi2 hr2)
    | (go_at_call 39; (with_reducible refine (HEX.out w2 v2 HO2.out).mono ?_); rintro e w3 ⟨rfl, ho⟩; have HO3 := Lib.hid (on_new HO2.out ho); clear ho))
  go_ret2
  exact ⟨rfl, HO3.out⟩

set_option maxRecDepth 100000 in
set_option maxHeartbeats 3200000 in
theorem pTake_grow (w : World) (pb mb n : Nat) (S : PS) (fv : Value) (fl : List R) (D : DataW Value) (m a : Int) (h : AtD w pb mb n S fv fl D) (hok : S.Ok) (hm : 1 ≤ m) (hf : NoRoom fl m) (ha : IsTail S a) (hbig : m ≤ S.limit - a) :
    Calls Tryz.prog 11 #[.pointer (some ⟨pb, 0, none⟩), .int .i64 m] w (Gone w pb mb n a (GrewS S a m)) := by
  have HAT := Lib.hid h
  have HT := Lib.hid (Take_no w fv fl m h.2.1 (i64_of h.2.2.2.1.1) hf)
  have HTL : Hid (∀ W, Only (w.heap.size ≤ ·) w W → Calls Tryz.prog 38 #[.pointer (some ⟨pb, 0, none⟩)] W (TailSays W pb S)) := Lib.hid fun W hW => tail_c W pb mb n S ⟨_, _, _, h.later hW⟩ hok
  have HEX : Hid (∀ W v l, Only (w.heap.size ≤ ·) w W → Row W v l → Off pb v l → IsRow l (fun p => S.F p ∧ p < a) → Calls Tryz.prog 39 #[.pointer (some ⟨pb, 0, none⟩), .int .i64 a, .int .i64 m, v] W (Gone W pb mb n a (GrewS S a m))) := Lib.hid fun W v l hW hv hvo hr => extend_yes W pb mb n S a m v l _ ⟨_, _, _, h.later hW⟩ hok ⟨ha.2.1, ha.2.2.1⟩ hm hbig hv hvo hr
  obtain ⟨c0, c1, c2, c3⟩ := h.cells
  have hm1 : ¬ m < 1 := by omega
  obtain ⟨A, nn, cc, rfl⟩ := h.2.1.form
  have HA := Lib.hid ha
  clear h hf c0 c1 c3 hm hbig hok ha
  go_enter Tryz.func11, Tryz.ntmps11
  go_wp2_with (first
    | (go_at_call 37; (with_reducible refine HT.out.mono ?_); rintro e w1 ⟨⟨A1, n1, cc1, rfl⟩, ho⟩; have HO1 := Lib.hid ho; clear ho)
    | (go_at_call 38; (with_reducible refine (HTL.out w1 HO1.out).mono ?_); rintro e w2 ⟨a2, v2, l2, rfl, hv2, ho2, hi2, hr2, ho⟩; have HO2 := Lib.hid (on_new HO1.out ho); obtain rfl : a2 = a := IsTail.uniq hi2 HA.out; have HV2 := Lib.hid hv2; have HVO2 := Lib.hid ho2; have HR2 := Lib.hid hr2; clear ho hv2 ho2 hi2 hr2)
    | (go_at_call 39; (with_reducible refine (HEX.out w2 v2 l2 HO2.out HV2.out HVO2.out HR2.out).mono ?_); rintro e w3 ⟨rfl, ha, ho⟩; have HA3 := Lib.hid ha; have HO3 : Hid (Touch pb mb w w3) := Lib.hid (Touch.trans (Touch.new HO2.out) ho); clear ha ho))
  go_ret2
  exact ⟨rfl, HA3.out, HO3.out⟩

theorem cell_drew {w : World} {a : Addr} {v : Value} (h : w.cell? a = some v) : w.drew.cell? a = some v := h
set_option maxRecDepth 100000 in
set_option maxHeartbeats 3200000 in
theorem pGrow_full (w : World) (pb mb n : Nat) (S : PS) (m : Int) (h : At w pb mb n S) (hok : S.Ok) (hm : 1 ≤ m ∧ m ≤ 9223372036854775807) (hbig : S.limit - S.pages < m) :
    Calls Tryz.prog 17 #[.pointer (some ⟨pb, 0, none⟩), .int .i64 m] w (Full w) := by
  obtain ⟨fv, fl, D, h⟩ := h
  have HX : Hid (∀ W, Only (w.heap.size ≤ ·) w W → Calls Tryz.prog 39 #[.pointer (some ⟨pb, 0, none⟩), .int .i64 S.pages, .int .i64 m, fv] W (Full W)) := Lib.hid fun W hW => extend_no W pb mb n S S.pages m fv ⟨_, _, _, h.later hW⟩ hok ⟨by have := hok.lo; omega, Int.le_refl _⟩ hm hbig
  obtain ⟨c0, c1, c2, c3⟩ := h.cells
  have hm1 : decide (m < 1) = false := decide_eq_false (by omega)
  obtain ⟨A, nn, cc, rfl⟩ := h.2.1.form
  generalize S.pages = pg at c0 HX
  clear h c1 c3 hm hbig hok
  go_enter Tryz.func17, Tryz.ntmps17
  go_upto_region 3 with (fail)
  have HZ : Hid (Only (w.heap.size ≤ ·) w w.drew) := Lib.hid (Only.refl _ w).drew
  replace c0 := cell_drew c0
  replace c2 := cell_drew c2
  replace HX := HX.out w.drew (Only.refl _ w).drew
  refine wp_region_list (B := [false, false, false, false, false, false, false, false, false, false, false, false, false, false, false]) (S := (fun _ => True)) (by kernel_rfl) (by kernel_rfl) (by kernel_rfl) trivial (fun hsel hHeld => ?_)
  generalize hwz : World.drew _ = wz at c0 c2 HX HZ hHeld ⊢
  clear hwz
  refine oneA 0 8 hsel (h := ?_)
  simp only [Act.put, List.setIfInBounds_toArray, List.set_cons_zero, List.set_cons_succ]
  refine oneA 1 9 hsel (h := ?_)
  simp only [Act.put, List.setIfInBounds_toArray, List.set_cons_zero, List.set_cons_succ]
  refine oneA 2 10 hsel (h := ?_)
  simp only [Act.put, List.setIfInBounds_toArray, List.set_cons_zero, List.set_cons_succ]
  refine oneA 3 11 hsel (h := ?_)
  simp only [Act.put, List.setIfInBounds_toArray, List.set_cons_zero, List.set_cons_succ]
  refine oneA 5 13 hsel (h := ?_)
  simp only [Act.put, List.setIfInBounds_toArray, List.set_cons_zero, List.set_cons_succ]
  refine oneA 6 14 hsel (h := ?_)
  simp only [Act.put, List.setIfInBounds_toArray, List.set_cons_zero, List.set_cons_succ]
  refine oneA 7 15 hsel (h := ?_)
  simp only [Act.put, List.setIfInBounds_toArray, List.set_cons_zero, List.set_cons_succ]
  refine oneA 8 16 hsel (h := ?_)
  simp only [Act.put, List.setIfInBounds_toArray, List.set_cons_zero, List.set_cons_succ]
  refine wpAnyL_ready (rs := [4, 9]) (by kernel_rfl) (by kernel_rfl) (by simp) ?_
  refine AllReadyL.cons (o := ?_) ?_ (fun K hK => ?_) (AllReadyL.cons (o := ?_) ?_ (fun K hK => ?_) AllReadyL.nil)
  case refine_2 => (simp only [List.getElem?_cons_succ, List.getElem?_cons_zero]; rfl)
  case refine_5 => (simp only [List.getElem?_cons_succ, List.getElem?_cons_zero]; rfl)
  case refine_3 =>
    go_simp
    clear hHeld
    refine hK.out _ _ trivial (fun hHeld => ?_)
    clear hK K
    try simp only [Act.put, List.setIfInBounds_toArray, List.set_cons_zero, List.set_cons_succ]
    refine wpAnyL_ready (rs := [9]) (by kernel_rfl) (by kernel_rfl) (by simp) ?_
    refine AllReadyL.cons (o := ?_) ?_ (fun K hK => ?_) AllReadyL.nil
    case refine_2 => (simp only [List.getElem?_cons_succ, List.getElem?_cons_zero]; rfl)
    go_simp
    clear hHeld
    refine hK.out _ _ trivial (fun hHeld => ?_)
    clear hK K
    try simp only [Act.put, List.setIfInBounds_toArray, List.set_cons_zero, List.set_cons_succ]
    refine wpAnyL_ready (rs := [10]) (by kernel_rfl) (by kernel_rfl) (by simp) ?_
    refine AllReadyL.cons (o := ?_) ?_ (fun K hK => ?_) AllReadyL.nil
    case refine_2 => (simp only [List.getElem?_cons_succ, List.getElem?_cons_zero]; rfl)
    go_simp
    (go_at_call 39; (with_reducible refine HX.mono ?_); rintro e w1 ⟨rfl, ho⟩; have HO1 := Lib.hid ho; clear ho)
    go_wp2_with (fail)
    clear hHeld
    refine hK.out _ _ trivial (fun hHeld => ?_)
    clear hK K
    try simp only [Act.put, List.setIfInBounds_toArray, List.set_cons_zero, List.set_cons_succ]
    refine oneA 11 19 hsel (h := ?_)
    simp only [Act.put, List.setIfInBounds_toArray, List.set_cons_zero, List.set_cons_succ]
    refine oneA 12 20 hsel (h := ?_)
    simp only [Act.put, List.setIfInBounds_toArray, List.set_cons_zero, List.set_cons_succ]
    refine oneA 13 4 hsel (h := ?_)
    simp only [Act.put, List.setIfInBounds_toArray, List.set_cons_zero, List.set_cons_succ]
    refine oneA 14 5 hsel (h := ?_)
    simp only [Act.put, List.setIfInBounds_toArray, List.set_cons_zero, List.set_cons_succ]
    refine wpAnyL_done (by kernel_rfl) (by kernel_rfl) ?_ _
    clear hsel hHeld
    go_wp2
    go_ret2
    exact ⟨rfl, on_new HZ.out HO1.out⟩
  case refine_6 =>
    go_simp
    clear hHeld
    refine hK.out _ _ trivial (fun hHeld => ?_)
    clear hK K
    try simp only [Act.put, List.setIfInBounds_toArray, List.set_cons_zero, List.set_cons_succ]
    refine wpAnyL_ready (rs := [4]) (by kernel_rfl) (by kernel_rfl) (by simp) ?_
    refine AllReadyL.cons (o := ?_) ?_ (fun K hK => ?_) AllReadyL.nil
    case refine_2 => (simp only [List.getElem?_cons_succ, List.getElem?_cons_zero]; rfl)
    go_simp
    clear hHeld
    refine hK.out _ _ trivial (fun hHeld => ?_)
    clear hK K
    try simp only [Act.put, List.setIfInBounds_toArray, List.set_cons_zero, List.set_cons_succ]
    refine wpAnyL_ready (rs := [10]) (by kernel_rfl) (by kernel_rfl) (by simp) ?_
    refine AllReadyL.cons (o := ?_) ?_ (fun K hK => ?_) AllReadyL.nil
    case refine_2 => (simp only [List.getElem?_cons_succ, List.getElem?_cons_zero]; rfl)
    go_simp
    (go_at_call 39; (with_reducible refine HX.mono ?_); rintro e w1 ⟨rfl, ho⟩; have HO1 := Lib.hid ho; clear ho)
    go_wp2_with (fail)
    clear hHeld
    refine hK.out _ _ trivial (fun hHeld => ?_)
    clear hK K
    try simp only [Act.put, List.setIfInBounds_toArray, List.set_cons_zero, List.set_cons_succ]
    refine oneA 11 19 hsel (h := ?_)
    simp only [Act.put, List.setIfInBounds_toArray, List.set_cons_zero, List.set_cons_succ]
    refine oneA 12 20 hsel (h := ?_)
    simp only [Act.put, List.setIfInBounds_toArray, List.set_cons_zero, List.set_cons_succ]
    refine oneA 13 4 hsel (h := ?_)
    simp only [Act.put, List.setIfInBounds_toArray, List.set_cons_zero, List.set_cons_succ]
    refine oneA 14 5 hsel (h := ?_)
    simp only [Act.put, List.setIfInBounds_toArray, List.set_cons_zero, List.set_cons_succ]
    refine wpAnyL_done (by kernel_rfl) (by kernel_rfl) ?_ _
    clear hsel hHeld
    go_wp2
    go_ret2
    exact ⟨rfl, on_new HZ.out HO1.out⟩

set_option maxRecDepth 100000 in
set_option maxHeartbeats 3200000 in
theorem pGrow_yes (w : World) (pb mb n : Nat) (S : PS) (m : Int) (h : At w pb mb n S) (hok : S.Ok) (hm : 1 ≤ m) (hbig : m ≤ S.limit - S.pages) :
    Calls Tryz.prog 17 #[.pointer (some ⟨pb, 0, none⟩), .int .i64 m] w (Gone w pb mb n S.pages { S with pages := S.pages + m }) := by
  obtain ⟨fv, fl, D, h⟩ := h
  have HX : Hid (∀ W, Only (w.heap.size ≤ ·) w W → Calls Tryz.prog 39 #[.pointer (some ⟨pb, 0, none⟩), .int .i64 S.pages, .int .i64 m, fv] W (Gone W pb mb n S.pages { S with pages := S.pages + m })) := Lib.hid fun W hW => extend_yes W pb mb n S S.pages m fv fl S.F ⟨_, _, _, h.later hW⟩ hok ⟨by have := hok.lo; omega, Int.le_refl _⟩ hm hbig (h.2.1.later hW) h.2.2.1 h.2.2.2.1
  obtain ⟨c0, c1, c2, c3⟩ := h.cells
  have hm1 : decide (m < 1) = false := decide_eq_false (by omega)
  obtain ⟨A, nn, cc, rfl⟩ := h.2.1.form
  generalize hS2 : ({ S with pages := S.pages + m } : PS) = S2 at HX ⊢
  generalize S.pages = pg at c0 HX ⊢
  clear h c1 c3 hm hbig hok hS2
  go_enter Tryz.func17, Tryz.ntmps17
  go_upto_region 3 with (fail)
  have HZ : Hid (Only (w.heap.size ≤ ·) w w.drew) := Lib.hid (Only.refl _ w).drew
  replace c0 := cell_drew c0
  replace c2 := cell_drew c2
  replace HX := HX.out w.drew (Only.refl _ w).drew
  refine wp_region_list (B := [false, false, false, false, false, false, false, false, false, false, false, false, false, false, false]) (S := (fun _ => True)) (by kernel_rfl) (by kernel_rfl) (by kernel_rfl) trivial (fun hsel hHeld => ?_)
  generalize hwz : World.drew _ = wz at c0 c2 HX HZ hHeld ⊢
  clear hwz
  refine oneA 0 8 hsel (h := ?_)
  simp only [Act.put, List.setIfInBounds_toArray, List.set_cons_zero, List.set_cons_succ]
  refine oneA 1 9 hsel (h := ?_)
  simp only [Act.put, List.setIfInBounds_toArray, List.set_cons_zero, List.set_cons_succ]
  refine oneA 2 10 hsel (h := ?_)
  simp only [Act.put, List.setIfInBounds_toArray, List.set_cons_zero, List.set_cons_succ]
  refine oneA 3 11 hsel (h := ?_)
  simp only [Act.put, List.setIfInBounds_toArray, List.set_cons_zero, List.set_cons_succ]
  refine oneA 5 13 hsel (h := ?_)
  simp only [Act.put, List.setIfInBounds_toArray, List.set_cons_zero, List.set_cons_succ]
  refine oneA 6 14 hsel (h := ?_)
  simp only [Act.put, List.setIfInBounds_toArray, List.set_cons_zero, List.set_cons_succ]
  refine oneA 7 15 hsel (h := ?_)
  simp only [Act.put, List.setIfInBounds_toArray, List.set_cons_zero, List.set_cons_succ]
  refine oneA 8 16 hsel (h := ?_)
  simp only [Act.put, List.setIfInBounds_toArray, List.set_cons_zero, List.set_cons_succ]
  refine wpAnyL_ready (rs := [4, 9]) (by kernel_rfl) (by kernel_rfl) (by simp) ?_
  refine AllReadyL.cons (o := ?_) ?_ (fun K hK => ?_) (AllReadyL.cons (o := ?_) ?_ (fun K hK => ?_) AllReadyL.nil)
  case refine_2 => (simp only [List.getElem?_cons_succ, List.getElem?_cons_zero]; rfl)
  case refine_5 => (simp only [List.getElem?_cons_succ, List.getElem?_cons_zero]; rfl)
  case refine_3 =>
    go_simp
    clear hHeld
    refine hK.out _ _ trivial (fun hHeld => ?_)
    clear hK K
    try simp only [Act.put, List.setIfInBounds_toArray, List.set_cons_zero, List.set_cons_succ]
    refine wpAnyL_ready (rs := [9]) (by kernel_rfl) (by kernel_rfl) (by simp) ?_
    refine AllReadyL.cons (o := ?_) ?_ (fun K hK => ?_) AllReadyL.nil
    case refine_2 => (simp only [List.getElem?_cons_succ, List.getElem?_cons_zero]; rfl)
    go_simp
    clear hHeld
    refine hK.out _ _ trivial (fun hHeld => ?_)
    clear hK K
    try simp only [Act.put, List.setIfInBounds_toArray, List.set_cons_zero, List.set_cons_succ]
    refine wpAnyL_ready (rs := [10]) (by kernel_rfl) (by kernel_rfl) (by simp) ?_
    refine AllReadyL.cons (o := ?_) ?_ (fun K hK => ?_) AllReadyL.nil
    case refine_2 => (simp only [List.getElem?_cons_succ, List.getElem?_cons_zero]; rfl)
    go_simp
    (go_at_call 39; (with_reducible refine HX.mono ?_); rintro e w1 ⟨rfl, ha, ho⟩; have HA1 := Lib.hid ha; have HO1 := Lib.hid ho; clear ha ho)
    go_wp2_with (fail)
    clear hHeld
    refine hK.out _ _ trivial (fun hHeld => ?_)
    clear hK K
    try simp only [Act.put, List.setIfInBounds_toArray, List.set_cons_zero, List.set_cons_succ]
    refine oneA 11 19 hsel (h := ?_)
    simp only [Act.put, List.setIfInBounds_toArray, List.set_cons_zero, List.set_cons_succ]
    refine oneA 12 20 hsel (h := ?_)
    simp only [Act.put, List.setIfInBounds_toArray, List.set_cons_zero, List.set_cons_succ]
    refine oneA 13 4 hsel (h := ?_)
    simp only [Act.put, List.setIfInBounds_toArray, List.set_cons_zero, List.set_cons_succ]
    refine oneA 14 5 hsel (h := ?_)
    simp only [Act.put, List.setIfInBounds_toArray, List.set_cons_zero, List.set_cons_succ]
    refine wpAnyL_done (by kernel_rfl) (by kernel_rfl) ?_ _
    clear hsel hHeld
    go_wp2
    go_ret2
    exact ⟨rfl, HA1.out, Touch.trans (Touch.new HZ.out) HO1.out⟩
  case refine_6 =>
    go_simp
    clear hHeld
    refine hK.out _ _ trivial (fun hHeld => ?_)
    clear hK K
    try simp only [Act.put, List.setIfInBounds_toArray, List.set_cons_zero, List.set_cons_succ]
    refine wpAnyL_ready (rs := [4]) (by kernel_rfl) (by kernel_rfl) (by simp) ?_
    refine AllReadyL.cons (o := ?_) ?_ (fun K hK => ?_) AllReadyL.nil
    case refine_2 => (simp only [List.getElem?_cons_succ, List.getElem?_cons_zero]; rfl)
    go_simp
    clear hHeld
    refine hK.out _ _ trivial (fun hHeld => ?_)
    clear hK K
    try simp only [Act.put, List.setIfInBounds_toArray, List.set_cons_zero, List.set_cons_succ]
    refine wpAnyL_ready (rs := [10]) (by kernel_rfl) (by kernel_rfl) (by simp) ?_
    refine AllReadyL.cons (o := ?_) ?_ (fun K hK => ?_) AllReadyL.nil
    case refine_2 => (simp only [List.getElem?_cons_succ, List.getElem?_cons_zero]; rfl)
    go_simp
    (go_at_call 39; (with_reducible refine HX.mono ?_); rintro e w1 ⟨rfl, ha, ho⟩; have HA1 := Lib.hid ha; have HO1 := Lib.hid ho; clear ha ho)
    go_wp2_with (fail)
    clear hHeld
    refine hK.out _ _ trivial (fun hHeld => ?_)
    clear hK K
    try simp only [Act.put, List.setIfInBounds_toArray, List.set_cons_zero, List.set_cons_succ]
    refine oneA 11 19 hsel (h := ?_)
    simp only [Act.put, List.setIfInBounds_toArray, List.set_cons_zero, List.set_cons_succ]
    refine oneA 12 20 hsel (h := ?_)
    simp only [Act.put, List.setIfInBounds_toArray, List.set_cons_zero, List.set_cons_succ]
    refine oneA 13 4 hsel (h := ?_)
    simp only [Act.put, List.setIfInBounds_toArray, List.set_cons_zero, List.set_cons_succ]
    refine oneA 14 5 hsel (h := ?_)
    simp only [Act.put, List.setIfInBounds_toArray, List.set_cons_zero, List.set_cons_succ]
    refine wpAnyL_done (by kernel_rfl) (by kernel_rfl) ?_ _
    clear hsel hHeld
    go_wp2
    go_ret2
    exact ⟨rfl, HA1.out, Touch.trans (Touch.new HZ.out) HO1.out⟩
end Go.Proofs.YtmadlckladohbaaGreat
