/-
  Metas: numbers put, and got, by their addresses.
-/
import Derived.Test.YtopaponemjaenaaDoorMtc
set_option linter.unusedVariables false
namespace Go.Proofs.YtopaponemjaenaaDoor
open Go.RowKit

theorem At_c (w : World) (p g : Nat) (T : TypeId) (c : Cur) (h : Holds w p g T c) :
    Calls Tryd.prog 73 #[.pointer (some ⟨p, 0, none⟩)] w fun e w' => e = .returned (.int .i64 c.at_) ∧ w = w' := by
  obtain ⟨A, cap, rest, h⟩ := h
  have h1 : w.cell? ⟨p, 1, none⟩ = some (.int .i64 c.at_) := h.blk.cell 1
  clear h
  go_enter Tryd.func73, Tryd.ntmps73
  go_wp2
  go_ret
  exact ⟨rfl, rfl⟩
def puts (c : Cur) (k : Int) (M : List Int) : Cur := M.foldl (fun c u => c.put u k) c
theorem puts_next {c : Cur} {k : Int} {M : List Int} {i : Nat} {u : Int} (h : M[i]? = some u) : puts c k (M.take (i + 1)) = (puts c k (M.take i)).put u k := by
  unfold puts
  rw [List.take_add_one, h, List.foldl_append]
  rfl
/-- The seven addresses. -/
def At7 (w : World) (B P : Nat) : Prop := Blk w B 90 [.pointer (some ⟨P, 0, none⟩), .pointer (some ⟨P, 1, none⟩), .pointer (some ⟨P, 2, none⟩), .pointer (some ⟨P, 3, none⟩), .pointer (some ⟨P, 4, none⟩), .pointer (some ⟨P, 5, none⟩), .pointer (some ⟨P, 6, none⟩)]
theorem At7.at_ {w : World} {B P j : Nat} (h : At7 w B P) (hj : j < 7) : w.cell? ⟨B, j, none⟩ = some (.pointer (some ⟨P, j, none⟩)) := (Blk.cell h j).trans (ptr_at P hj)
/-- A meta's cells: seven numbers, and the cursor. -/
def Cells7 (w : World) (P : Nat) (M : List Int) (cv : Value) : Prop := M.length = 7 ∧ Blk w P 36 (M.map (Value.int .i64) ++ [cv])
theorem Cells7.at_ {w : World} {P j : Nat} {M : List Int} {cv : Value} {u : Int} (h : Cells7 w P M cv) (hu : M[j]? = some u) : w.cell? ⟨P, j, none⟩ = some (.int .i64 u) := by
  rw [Blk.cell h.2 j, List.getElem?_append_left (by rw [List.length_map]; exact (List.getElem?_eq_some_iff.1 hu).1), List.getElem?_map, hu]
  rfl
theorem Cells7.set_ {w : World} {P j : Nat} {M : List Int} {cv : Value} {u : Int} (h : Cells7 w P M cv) (hj : j < 7) : Cells7 (w.setCell ⟨P, j, none⟩ (.int .i64 u)) P (M.set j u) cv := by
  refine ⟨by rw [List.length_set]; exact h.1, ?_⟩
  have h2 := Blk.set_ h.2 j (.int .i64 u)
  rwa [List.set_append_left _ _ (by rw [List.length_map, h.1]; exact hj), ← List.map_set] at h2
theorem Cells7.only {w w' : World} {P : Nat} {M : List Int} {cv : Value} {F : Nat → Prop} (h : Cells7 w P M cv) (ho : Only F w w') (hF : ¬ F P) : Cells7 w' P M cv := ⟨h.1, h.2.only ho hF⟩
theorem At7.only {w w' : World} {B P : Nat} {F : Nat → Prop} (h : At7 w B P) (ho : Only F w w') (hF : ¬ F B) : At7 w' B P := Blk.only h ho hF
set_option maxRecDepth 100000 in
set_option maxHeartbeats 3200000 in
theorem put_c (w : World) (p q B P o n cap : Nat) (c : Cur) (k : Int) (M : List Int) (cv : Value) (hH : Holds w p q 122 c) (hA : At7 w B P) (hC : Cells7 w P M cv) (hB : ¬ Foot p q B) (hP : ¬ Foot p q P) (hn : o + n ≤ 7) (hI : ∀ u ∈ M, I64 u) :
    Calls Tryd.prog 69 #[.pointer (some ⟨p, 0, none⟩), .slice (some ⟨B, o, none⟩) n cap, .int .i64 k] w fun e w' => e = .returned (.tuple #[]) ∧ Holds w' p q 122 (puts c k ((M.drop o).take n)) ∧ Only (Foot p q) w w' := by
  have HH := Lib.hid hH
  have HA := Lib.hid hA
  have HC := Lib.hid hC
  have HBP := Lib.hid (And.intro hB hP)
  have HI := Lib.hid hI
  have HPC : Hid (∀ W c u, Holds W p q 122 c → I64 u → Calls Tryd.prog 70 #[.pointer (some ⟨p, 0, none⟩), .int .i64 u, .int .i64 k] W fun e w' => e = .returned (.tuple #[]) ∧ Holds w' p q 122 (c.put u k) ∧ Only (Foot p q) W w') := Lib.hid fun W c u h hu => Put_c W p q c h u k hu.1 hu.2
  clear hH hA hC hB hP hI
  go_enter Tryd.func69, Tryd.ntmps69
  go_wp2_with (fail)
  go_loopw [10] (fun kv wr => ∃ i : Nat, i ≤ n ∧ kv = .int .i64 i ∧ Hid (Holds wr p q 122 (puts c k ((M.drop o).take i))) ∧ Hid (Only (Foot p q) w wr)) (fun kv _ => n - (intOf kv).toNat)
  case atStart => exact ⟨0, Nat.zero_le _, rfl, Lib.hid (by rw [List.take_zero]; exact HH.out), Lib.hid (Only.refl _ _)⟩
  case round =>
    obtain ⟨i, hi, rfl, HW, HO⟩ := hrel
    by_cases hlt : i < n
    · have hli : (i : Int) < (n : Int) := by omega
      have HAW := Lib.hid (HA.out.only HO.out HBP.out.1)
      have HCW := Lib.hid (HC.out.only HO.out HBP.out.2)
      obtain ⟨u, hu⟩ : ∃ u, M[o + i]? = some u := ⟨_, List.getElem?_eq_getElem (by rw [HC.out.1]; omega)⟩
      have c1 := HAW.out.at_ (j := o + i) (by omega)
      have c2 := HCW.out.at_ hu
      have HU : Hid (M[o + i]? = some u) := Lib.hid hu
      have HU2 : Hid (I64 u) := Lib.hid (HI.out u (List.mem_of_getElem? hu))
      clear hu
      go_wp2_with (go_at_call 70; (with_reducible refine (HPC.out _ _ _ HW.out HU2.out).mono ?_); rintro ee w2 ⟨rfl, hh, ho⟩; have HH2 := Lib.hid hh; have HO2 := Lib.hid ho; clear hh ho)
      go_roundw
      case rel => exact ⟨i + 1, by omega, rfl, Lib.hid (by rw [puts_next (u := u) (by rw [List.getElem?_drop]; exact HU.out)]; exact HH2.out), Lib.hid (HO.out.trans HO2.out)⟩
      case measure => simp [intOf]; omega
    · obtain rfl : i = n := by omega
      have hli : ¬ (i : Int) < (i : Int) := by omega
      go_wp2_with (fail)
      go_end0
      exact ⟨rfl, HW.out, HO.out⟩
/-- What a reader gets in a row, where it is laid. -/
def gets (k : Int) : Nat → Nat → Cur → List Int → Cur × List Int
  | 0, _, c, M => (c, M)
  | n + 1, o, c, M => gets k n (o + 1) (c.get k) (M.set o (c.val k))
set_option maxRecDepth 100000 in
set_option maxHeartbeats 3200000 in
theorem get_c (w : World) (p q B P o n cap : Nat) (c : Cur) (k : Int) (M : List Int) (cv : Value) (hH : Holds w p q 136 c) (hA : At7 w B P) (hC : Cells7 w P M cv) (hB : B ≠ p ∧ B ≠ P) (hP : P ≠ p ∧ P ≠ q) (hn : o + n ≤ 7) :
    Calls Tryd.prog 91 #[.pointer (some ⟨p, 0, none⟩), .slice (some ⟨B, o, none⟩) n cap, .int .i64 k] w fun e w' => e = .returned (.tuple #[]) ∧ Holds w' p q 136 (gets k n o c M).1 ∧ Cells7 w' P (gets k n o c M).2 cv ∧ Only (fun j => j = p ∨ j = P) w w' := by
  have HH := Lib.hid hH
  have HA := Lib.hid hA
  have HC := Lib.hid hC
  have HBP := Lib.hid (And.intro hB hP)
  obtain ⟨T, hT⟩ : ∃ T, T = gets k n o c M := ⟨_, rfl⟩
  rw [← hT]
  have HPC : Hid (∀ W c, Holds W p q 136 c → Calls Tryd.prog 92 #[.pointer (some ⟨p, 0, none⟩), .int .i64 k] W (Gets W p q c k)) := Lib.hid fun W c h => Get_c W p q c h k
  have HT := Lib.hid hT
  clear hH hA hC hB hP hT
  go_enter Tryd.func91, Tryd.ntmps91
  go_wp2_with (fail)
  go_loopw [10] (fun kv wr => ∃ (i : Nat) (c' : Cur) (M' : List Int), i ≤ n ∧ kv = .int .i64 i ∧ Hid (T = gets k (n - i) (o + i) c' M') ∧ Hid (Holds wr p q 136 c') ∧ Hid (Cells7 wr P M' cv) ∧ Hid (Only (fun j => j = p ∨ j = P) w wr)) (fun kv _ => n - (intOf kv).toNat)
  case atStart => exact ⟨0, c, M, Nat.zero_le _, rfl, HT, HH, HC, Lib.hid (Only.refl _ _)⟩
  case round =>
    obtain ⟨i, c', M', hi, rfl, HE, HW, HCW, HO⟩ := hrel
    by_cases hlt : i < n
    · have hli : (i : Int) < (n : Int) := by omega
      have HAW := Lib.hid (HA.out.only HO.out (by have := HBP.out; omega))
      obtain ⟨u, hu⟩ : ∃ u, M'[o + i]? = some u := ⟨_, List.getElem?_eq_getElem (by rw [HCW.out.1]; omega)⟩
      have c1 := HAW.out.at_ (j := o + i) (by omega)
      have HU : Hid (M'[o + i]? = some u) := Lib.hid hu
      clear hu
      go_wp2_with (go_at_call 92; (with_reducible refine (HPC.out _ _ HW.out).mono ?_); rintro ee w2 ⟨rfl, hh, ho⟩; have HH2 := Lib.hid hh; have HO2 := Lib.hid ho; (replace HCW := Lib.hid (HCW.out.only HO2.out HBP.out.2.1)); have c2 := HCW.out.at_ HU.out; have c3 := HCW.out.2.frozen (o + i); clear hh ho)
      go_roundw
      case rel =>
        refine ⟨i + 1, _, _, by omega, rfl, Lib.hid (HE.out.trans ?_), Lib.hid (HH2.out.only (F := (· = P)) (Only.setCell (F := (· = P)) (p := ⟨P, o + i, none⟩) (Only.refl _ w2) rfl _) ?_), Lib.hid (HCW.out.set_ (by omega)), Lib.hid ((HO.out.trans (HO2.out.mono fun j h => .inl h)).setCell (p := ⟨P, o + i, none⟩) (.inr rfl) _)⟩
        · rw [show n - i = (n - (i + 1)) + 1 from by omega]
          rfl
        · intro j hj _ e
          have := HBP.out
          unfold Foot at hj
          omega
      case measure => simp [intOf]; omega
    · obtain rfl : i = n := by omega
      have hli : ¬ (i : Int) < (i : Int) := by omega
      go_wp2_with (fail)
      go_end0
      rw [Nat.sub_self] at HE
      have e : T = (c', M') := HE.out
      subst e
      exact ⟨rfl, HW.out, HCW.out, HO.out⟩
end Go.Proofs.YtopaponemjaenaaDoor
