/-
  Encode: of no value, and of a chain.
-/
import Derived.Test.YtbgnfocfnjlabaaDoorLnk
set_option linter.unusedVariables false
namespace Go.Proofs.YtbgnfocfnjlabaaDoor
open Go.RowKit

/-- May a value of n bytes stand in these pages? -/
def encOk (g : Int) (n : Nat) (l : List Int) : Bool := decide (manyP g n ≠ 0 ∧ (l.length : Int) = manyP g n) && mayP g l
section
variable (w : World) (g : Int) (A UA : Option Addr) (n c q uc : Nat) (v : Bytes) (l : List Int)
set_option maxRecDepth 100000 in
set_option maxHeartbeats 1600000 in
theorem OEncode_no (hG : Gens w) (hu : Ints w (.slice UA q uc) l) (h : encOk g n l = false) :
    Calls Tryd.prog 17 #[.int .i64 g, .slice A n c, .slice UA q uc] w fun e w' => e = .returned (.tuple #[.slice none 0 0, .int .i64 1]) ∧ Only (w.heap.size ≤ ·) w w' := by
  have hql := hu.len
  obtain ⟨z, hz⟩ : ∃ z, z = manyP g n := ⟨_, rfl⟩
  have HM : Hid (∀ W, Gens W → Calls Tryd.prog 7 #[.int .i64 g, .int .i64 (n : Nat)] W (Told W (.int .i64 z))) := Lib.hid fun W hW => by rw [hz]; exact OMany_c W g n hW
  have HG := Lib.hid hG
  have HU := Lib.hid hu
  have HZ : Hid (z ≤ 100000) := Lib.hid (by rw [hz]; exact manyP_le _ _)
  unfold encOk at h
  rw [← hz, ← hql] at h
  clear hz hG hu
  by_cases h1 : z = 0
  · subst h1
    go_enter Tryd.func17, Tryd.ntmps17
    go_wp2_with (go_at_call 7; refine (HM.out _ HG.out).mono ?_; rintro e w1 ⟨rfl, ho⟩; have HO := Lib.hid ho; clear ho)
    go_ret2
    exact ⟨rfl, HO.out⟩
  have b1 : (z == 0) = false := by rw [beq_eq_false_iff_ne]; exact h1
  by_cases h2 : (q : Int) = z
  · have hm : mayP g l = false := by
      rw [decide_eq_true ⟨h1, h2⟩] at h
      simpa using h
    have HB : Hid (∀ W, Only (w.heap.size ≤ ·) w W → Calls Tryd.prog 34 #[.int .i64 g, .slice UA q uc] W (Told W (.bool false))) := Lib.hid fun W hW => by
      have := OmayBe_c W g _ l (HU.out.later hW) (by rw [← hql]; have := HZ.out; omega)
      rwa [hm] at this
    clear hm h h1 hql
    subst h2
    go_enter Tryd.func17, Tryd.ntmps17
    go_wp2_with (first | (go_at_call 7; refine (HM.out _ HG.out).mono ?_; rintro e w1 ⟨rfl, ho⟩; have HO := Lib.hid ho; clear ho) | (go_at_call 34; refine (HB.out _ HO.out).mono ?_; rintro e w2 ⟨rfl, ho⟩; (replace HO := Lib.hid (on_new HO.out ho)); clear ho))
    go_ret2
    exact ⟨rfl, HO.out⟩
  · have b2 : ((q : Int) != z) = true := by rw [bne_iff_ne]; exact h2
    clear h h1 h2 hql
    go_enter Tryd.func17, Tryd.ntmps17
    go_wp2_with (first | (go_at_call 7; refine (HM.out _ HG.out).mono ?_; rintro e w1 ⟨rfl, ho⟩; have HO := Lib.hid ho; clear ho))
    go_ret2
    exact ⟨rfl, HO.out⟩

set_option maxRecDepth 100000 in
set_option maxHeartbeats 1600000 in
theorem OEncode_chain (m : Nat) (hG : Gens w) (hg : g = 1 ∨ g = 2) (hm : (m : Int) = tr g 248 240 240) (hv : Src w (.slice A n c) v) (hu : Ints w (.slice UA q uc) l) (h : encOk g n l = true) :
    Calls Tryd.prog 17 #[.int .i64 g, .slice A n c, .slice UA q uc] w fun e w' => ∃ r, e = .returned (.tuple #[r, .int .i64 0]) ∧ Pgs w.heap.size w' r (linksB g v m l (List.range q)) ∧ Only (w.heap.size ≤ ·) w w' := by
  have hql := hu.len
  obtain ⟨z, hz⟩ : ∃ z, z = manyP g n := ⟨_, rfl⟩
  have HM : Hid (∀ W, Gens W → Calls Tryd.prog 7 #[.int .i64 g, .int .i64 (n : Nat)] W (Told W (.int .i64 z))) := Lib.hid fun W hW => by rw [hz]; exact OMany_c W g n hW
  have HG := Lib.hid hG
  have HZ : Hid (z ≤ 100000) := Lib.hid (by rw [hz]; exact manyP_le _ _)
  unfold encOk at h
  rw [← hz, ← hql] at h
  simp only [Bool.and_eq_true, decide_eq_true_eq] at h
  obtain ⟨⟨h1, h2⟩, h3⟩ := h
  have hb := manyP_chain hg hm (n := n) (by rw [← hz]; exact h1)
  have hI : ∀ x ∈ l, I64 x := fun x hx => by have := mayP_bound h3 x hx; constructor <;> omega
  have HB : Hid (∀ W, Only (w.heap.size ≤ ·) w W → Calls Tryd.prog 34 #[.int .i64 g, .slice UA q uc] W (Told W (.bool true))) := Lib.hid fun W hW => by
    have := OmayBe_c W g _ l (hu.later hW) (by rw [← hql]; have := HZ.out; omega)
    rwa [h3] at this
  have HK : Hid (∀ W, Only (w.heap.size ≤ ·) w W → Calls Tryd.prog 35 #[.int .i64 g, .slice A n c, .slice UA q uc] W fun e w' => ∃ r, e = .returned r ∧ Pgs W.heap.size w' r (linksB g v m l (List.range q)) ∧ Only (W.heap.size ≤ ·) W w') := Lib.hid fun W hW =>
    Olinks_c W g m q A UA n c uc v l (hG.later hW) hg hm (hv.later hW) (by omega) (by omega) (hu.later hW) (by have := hb.2.2; omega) (by have := hb.2.2; omega) hI
  have HS : Hid (∀ W, Calls Tryd.prog 9 #[.int .i64 g] W fun e w' => e = .returned (.bool true) ∧ W = w') := Lib.hid fun W => by
    have := OSingle_c W g
    rwa [show sgl g = true from decide_eq_true hg] at this
  have b1 : (z == 0) = false := by rw [beq_eq_false_iff_ne]; exact h1
  clear hz hG hu hv h1 h3 hg hm hI hb hql
  subst h2
  go_enter Tryd.func17, Tryd.ntmps17
  go_wp2_with (first | (go_at_call 7; refine (HM.out _ HG.out).mono ?_; rintro e w1 ⟨rfl, ho⟩; have HO := Lib.hid ho; clear ho) | (go_at_call 34; refine (HB.out _ HO.out).mono ?_; rintro e w2 ⟨rfl, ho⟩; (replace HO := Lib.hid (on_new HO.out ho)); clear ho) | (go_at_call 9; refine (HS.out _).mono ?_; rintro e w3 ⟨rfl, rfl⟩) | (go_at_call 35; refine (HK.out _ HO.out).mono ?_; rintro e w4 ⟨r, rfl, hp, ho⟩; have HP := Lib.hid (hp.mono HO.out.size); (replace HO := Lib.hid (on_new HO.out ho)); clear ho hp))
  go_ret2
  exact ⟨r, rfl, HP.out, HO.out⟩
end
end Go.Proofs.YtbgnfocfnjlabaaDoor
