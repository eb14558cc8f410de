/-
  Body of the program.
-/
import Derived.Test.YtbgnfocfnjlabaaDoorPhd
set_option linter.unusedVariables false
namespace Go.Proofs.YtbgnfocfnjlabaaDoor
open Go.RowKit

/-- The error that HeadOf tells, and the parts of the head. -/
def hdE (b : Bytes) : Int := match b with
  | x0 :: x1 :: _ => if b.length < 4 then 70 else if (kindOk (x0.toNat : Int) && gen (x1.toNat : Int)) = true then (if ((hdC b x1.toNat).get (tr x1.toNat 4 8 8)).sp = true then 72 else 0) else 70
  | _ => 70
def hdK (b : Bytes) : Nat := (b.getD 0 0).toNat
def hdG (b : Bytes) : Nat := (b.getD 1 0).toNat
def hdN (b : Bytes) : Nat := hdCnt b (hdG b)
def hdX (b : Bytes) : Nat := (hdC b (hdG b)).val (tr (hdG b) 4 8 8)
def hdOk (b : Bytes) : Value := .tuple #[.agg #[.int .i64 (hdK b : Nat), .int .i64 (hdG b : Nat), .int .i64 (hdN b : Nat), .int .i64 (hdX b : Nat)], .int .i64 0]
theorem hdV_ok {b : Bytes} (h : hdE b = 0) : hdV b = hdOk b ∧ gen (hdG b : Int) = true ∧ 4 ≤ b.length := by
  unfold hdE at h
  split at h
  · rename_i x0 x1 r
    by_cases h4 : (x0 :: x1 :: r).length < 4
    · rw [if_pos h4] at h; cases h
    rw [if_neg h4] at h
    by_cases hk : (kindOk (x0.toNat : Int) && gen (x1.toNat : Int)) = true
    · rw [if_pos hk] at h
      by_cases hs : ((hdC (x0 :: x1 :: r) x1.toNat).get (tr x1.toNat 4 8 8)).sp = true
      · rw [if_pos hs] at h; cases h
      · refine ⟨?_, ?_, by omega⟩
        · unfold hdV
          simp only
          rw [if_neg h4, if_pos hk, if_neg hs]
          rfl
        · rw [Bool.and_eq_true] at hk
          exact hk.2
    · rw [if_neg hk] at h; cases h
  · cases h
theorem hdV_no : ∀ {b : Bytes}, hdE b ≠ 0 → hdV b = hdBad (hdE b)
  | [], _ => rfl
  | [_], _ => rfl
  | x0 :: x1 :: r, h => by
    have e1 : hdE (x0 :: x1 :: r) = if (x0 :: x1 :: r).length < 4 then 70 else if (kindOk (x0.toNat : Int) && gen (x1.toNat : Int)) = true then (if ((hdC (x0 :: x1 :: r) x1.toNat).get (tr x1.toNat 4 8 8)).sp = true then 72 else 0) else 70 := rfl
    unfold hdV
    rw [e1] at h ⊢
    by_cases h4 : (x0 :: x1 :: r).length < 4
    · simp only [if_pos h4]
    · simp only [if_neg h4] at h ⊢
      by_cases hk : (kindOk (x0.toNat : Int) && gen (x1.toNat : Int)) = true
      · simp only [if_pos hk] at h ⊢
        by_cases hs : ((hdC (x0 :: x1 :: r) x1.toNat).get (tr x1.toNat 4 8 8)).sp = true
        · simp only [if_pos hs]
        · simp only [if_neg hs] at h
          exact absurd rfl h
      · simp only [if_neg hk]
def bodyOf (b : Bytes) : Bytes := if hdE b = 0 ∧ b.length = 256 then b.drop (tr (hdG b) 8 16 16).toNat else []
set_option maxRecDepth 100000 in
set_option maxHeartbeats 6400000 in
theorem Body_c (w : World) (v : Value) (b : Bytes) (hG : Gens w) (h : Src w v b) (hn : b.length ≤ 65536) :
    Calls Tryd.prog 80 #[v] w (GaveB w (bodyOf b)) := by
  have HHO := Lib.hid (HeadOf_c w v b hG h hn)
  have HG := Lib.hid hG
  have HS := Lib.hid h
  obtain ⟨A, cap, rfl, ht, hA, hc, hm⟩ := h
  obtain ⟨n, hne⟩ : ∃ n, n = b.length := ⟨_, rfl⟩
  rw [← hne] at ht hc HHO HS ⊢
  by_cases he : hdE b = 0
  · obtain ⟨e1, e2, e3⟩ := hdV_ok he
    rw [e1] at HHO
    unfold hdOk at HHO
    have HGE := Lib.hid e2
    obtain ⟨BV, hBV⟩ : ∃ x, x = bodyOf b := ⟨_, rfl⟩
    rw [← hBV]
    obtain ⟨gv, hgv⟩ : ∃ x, x = hdG b := ⟨_, rfl⟩
    by_cases h256 : n = 256
    · have HBV : Hid (BV = b.drop (tr (gv : Int) 8 16 16).toNat) := Lib.hid (by rw [hBV, hgv]; unfold bodyOf; rw [if_pos ⟨he, by omega⟩])
      rw [← hgv] at HHO HGE
      generalize hdK b = kv at HHO
      generalize hdN b = nv at HHO
      generalize hdX b = xv at HHO
      obtain ⟨hh, hhh⟩ : ∃ z : Nat, (z : Int) = tr (gv : Int) 8 16 16 := by
        have h3 := HGE.out
        unfold gen at h3
        rw [decide_eq_true_eq] at h3
        unfold tr
        rcases (by omega : (gv : Int) = 1 ∨ (gv : Int) = 2 ∨ (gv : Int) = 3) with h | h | h <;> rw [h] <;> first | exact ⟨8, rfl⟩ | exact ⟨16, rfl⟩
      have hh16 : hh ≤ 16 := by
        have : tr (gv : Int) 8 16 16 ≤ 16 := by unfold tr; split <;> (try split) <;> (try split) <;> omega
        omega
      have HHD : Hid (∀ W, Only (w.heap.size ≤ ·) w W → Calls Tryd.prog 22 #[.int .i64 (gv : Int)] W (Told W (.int .i64 (hh : Int)))) := Lib.hid fun W hW => by rw [hhh]; exact Head_c W gv (HG.out.later hW)
      rw [← hhh, Int.toNat_natCast] at HBV
      obtain ⟨ad, eA, hcell⟩ := ht.2 (by omega)
      have e0 := ht.src ad eA 0 (.int .u8 (b[0]'(by omega)).toNat) (by unfold cb; rw [List.getElem?_map, List.getElem?_eq_getElem (by omega)]; rfl)
      have ee : ad.add 0 = ad := by cases ad; simp [Addr.add]
      rw [ee] at e0
      have hsp := spotF e0
      obtain ⟨bl, o, rfl⟩ : ∃ bl o, ad = ⟨bl, o, none⟩ := ⟨_, _, hsp⟩
      subst eA
      have HSL : Hid (∀ W, Only (w.heap.size ≤ ·) w W → Src W (.slice (some ⟨bl, o + hh, none⟩) (n - hh) (cap - hh)) BV) := Lib.hid fun W hW => by
        have h1 := (ht.later hW).drop hh
        rw [Addr.add_lit] at h1
        rw [HBV.out]
        have hl : (b.drop hh).length = n - hh := by rw [List.length_drop, hne]
        exact ⟨some ⟨bl, o + hh, none⟩, cap - hh, by rw [hl], by rw [hl]; exact h1, (fun e => by cases e), by rw [hl]; omega, by omega⟩
      have HBL : Hid (BV.length ≤ 1099511627776) := Lib.hid (by rw [HBV.out, List.length_drop]; omega)
      have hni : ((n : Int) == 256) = true := by rw [beq_iff_eq]; omega
      have z1 : hh ≤ n := by omega
      have z2 : (hh : Int) ≤ (n : Int) := by omega
      have z3 : ¬ cap = hh := by omega
      have z4 : (n : Int) ≤ (cap : Int) := by omega
      clear hBV hgv he e1 e2 e3 hhh ht hA hcell e0 ee hsp hne
      subst h256
      go_enter Tryd.func80, Tryd.ntmps80
      go_wp2_with (first
        | (go_at_call 28; (with_reducible refine HHO.out.mono ?_); rintro e w1 ⟨rfl, ho⟩; have HL := Lib.hid (ho.alloc (fun _ h => h) (.cells #[.int .i64 (kv : Nat), .int .i64 (gv : Nat), .int .i64 (nv : Nat), .int .i64 (xv : Nat)] 57)); clear ho)
        | (go_at_call 22; (with_reducible refine (HHD.out _ HL.out).mono ?_); rintro e w2 ⟨rfl, ho⟩; (replace HL := Lib.hid (on_new HL.out ho)); clear ho)
        | (go_at_call 45; (with_reducible refine (Clone_c _ _ BV (HSL.out _ HL.out) HBL.out).mono ?_); rintro e w3 ⟨v', rfl, hk, ho⟩; have HK := Lib.hid hk; (replace HL := Lib.hid (on_new HL.out ho)); clear hk ho))
      go_ret
      exact ⟨v', rfl, Src.own HK.out, HL.out⟩
    · have hni : ((n : Int) == 256) = false := by rw [beq_eq_false_iff_ne]; omega
      obtain rfl : BV = [] := by rw [hBV]; unfold bodyOf; rw [if_neg (by omega)]
      generalize hdK b = kv at HHO
      generalize hdN b = nv at HHO
      generalize hdX b = xv at HHO
      rw [← hgv] at HHO
      clear hBV hgv he e1 e2 e3 ht hA hne
      go_enter Tryd.func80, Tryd.ntmps80
      go_wp2_with (go_at_call 28; (with_reducible refine HHO.out.mono ?_); rintro e w1 ⟨rfl, ho⟩; have HL := Lib.hid ho; clear ho)
      go_ret
      exact ⟨_, rfl, Src.nil_ _, HL.out.alloc (fun _ h => h) _⟩
  · have e1 := hdV_no he
    rw [e1] at HHO
    unfold hdBad at HHO
    obtain ⟨BV, hBV⟩ : ∃ x, x = bodyOf b := ⟨_, rfl⟩
    rw [← hBV]
    obtain rfl : BV = [] := by rw [hBV]; unfold bodyOf; rw [if_neg (fun h => he h.1)]
    obtain ⟨z, hz⟩ : ∃ z, z = hdE b := ⟨_, rfl⟩
    rw [← hz] at HHO he
    have hzi : (z == 0) = false := by rw [beq_eq_false_iff_ne]; exact he
    clear hBV hz e1 ht hA hne he
    go_enter Tryd.func80, Tryd.ntmps80
    go_wp2_with (go_at_call 28; (with_reducible refine HHO.out.mono ?_); rintro e w1 ⟨rfl, ho⟩; have HL := Lib.hid ho; clear ho)
    go_ret
    exact ⟨_, rfl, Src.nil_ _, HL.out.alloc (fun _ h => h) _⟩
end Go.Proofs.YtbgnfocfnjlabaaDoor
