/-
  Metas: Choose.
-/
import Derived.Test.YtopaponemjaenaaDoorMdc
set_option linter.unusedVariables false
namespace Go.Proofs.YtopaponemjaenaaDoor
open Go.RowKit

theorem results_ctt {fn : Func} {P : Program} {p t u : Tmp} {ty : TypeId} {tmps : Array Value} {w : World} {a : Addr} {v : Value} (h : fn.results = #[.cell p ty, .tmp t, .tmp u]) (ha : tmps.getD p undef = .pointer (some a)) (hl : (loadVar ty a).run P w = .ok v w) :
    (results fn tmps).run P w = .ok (.tuple #[v, tmps.getD t undef, tmps.getD u undef]) w := by
  rw [Array.getD_eq_getD_getElem?] at ha
  simp only [results, h]
  simp [ha, asAddr, hl]
def sl (x : Int) : Int := bits .and .i64 x 1
/-- The newest so far: its numbers, its cursor, its page, why there is none. -/
structure ChS where
  N : List Int
  X : Bytes
  at_ : Int
  why : Int
def chStep (k : Int) (s : ChS) (M : List Int) (X : Bytes) (e : Int) : ChS := if e = 93 then ⟨s.N, s.X, s.at_, 93⟩ else if e = 0 ∧ sl (M.getD 3 0) = k ∧ s.N.getD 3 0 < M.getD 3 0 then ⟨M, X, k, s.why⟩ else s
def ch0 : ChS := ⟨[0, 0, 0, 0, 0, 0, 0], [], -1, 92⟩
section
variable (aM bM : List Int) (aX bX : Bytes) (aE bE : Int)
def rest : Nat → ChS → ChS
  | 0, s => chStep 1 (chStep 0 s aM aX aE) bM bX bE
  | 1, s => chStep 1 s bM bX bE
  | _ + 2, s => s
variable {aM bM aX bX aE bE} {N : List Int} {X : Bytes} {at' y' : Int}
theorem rest0_93 (h : aE = 93) : rest aM bM aX bX aE bE 0 ⟨N, X, at', y'⟩ = rest aM bM aX bX aE bE 1 ⟨N, X, at', aE⟩ := by
  show chStep 1 (chStep 0 _ aM aX aE) bM bX bE = chStep 1 _ bM bX bE
  congr 1
  unfold chStep
  rw [if_pos h, h]
theorem rest1_93 (h : bE = 93) : rest aM bM aX bX aE bE 1 ⟨N, X, at', y'⟩ = rest aM bM aX bX aE bE 2 ⟨N, X, at', bE⟩ := by
  show chStep 1 _ bM bX bE = _
  unfold chStep
  rw [if_pos h, h]
  rfl
theorem rest0_no (h : aE ≠ 93 ∧ ¬ (aE = 0 ∧ sl (aM.getD 3 0) = 0 ∧ N.getD 3 0 < aM.getD 3 0)) : rest aM bM aX bX aE bE 0 ⟨N, X, at', y'⟩ = rest aM bM aX bX aE bE 1 ⟨N, X, at', y'⟩ := by
  show chStep 1 (chStep 0 _ aM aX aE) bM bX bE = chStep 1 _ bM bX bE
  congr 1
  unfold chStep
  rw [if_neg h.1, if_neg h.2]
theorem rest1_no (h : bE ≠ 93 ∧ ¬ (bE = 0 ∧ sl (bM.getD 3 0) = 1 ∧ N.getD 3 0 < bM.getD 3 0)) : rest aM bM aX bX aE bE 1 ⟨N, X, at', y'⟩ = rest aM bM aX bX aE bE 2 ⟨N, X, at', y'⟩ := by
  show chStep 1 _ bM bX bE = _
  unfold chStep
  rw [if_neg h.1, if_neg h.2]
  rfl
theorem rest0_yes (h : aE = 0 ∧ sl (aM.getD 3 0) = 0 ∧ N.getD 3 0 < aM.getD 3 0) : rest aM bM aX bX aE bE 0 ⟨N, X, at', y'⟩ = rest aM bM aX bX aE bE 1 ⟨aM, aX, 0, y'⟩ := by
  show chStep 1 (chStep 0 _ aM aX aE) bM bX bE = chStep 1 _ bM bX bE
  congr 1
  unfold chStep
  rw [if_neg (by rw [h.1]; decide), if_pos h]
theorem rest1_yes (h : bE = 0 ∧ sl (bM.getD 3 0) = 1 ∧ N.getD 3 0 < bM.getD 3 0) : rest aM bM aX bX aE bE 1 ⟨N, X, at', y'⟩ = rest aM bM aX bX aE bE 2 ⟨bM, bX, 1, y'⟩ := by
  show chStep 1 _ bM bX bE = _
  unfold chStep
  rw [if_neg (by rw [h.1]; decide), if_pos h]
  rfl
end
/-- A meta, a page, an error. -/
def GaveC (w : World) (s : ChS) (e : Ending) (w' : World) : Prop := ∃ (g ph t x r p l : Int) (A : Option Addr) (n c : Nat), s.N = [g, ph, t, x, r, p, l] ∧ n = s.X.length ∧ e = .returned (.tuple #[.agg #[.int .i64 g, .int .i64 ph, .int .i64 t, .int .i64 x, .int .i64 r, .int .i64 p, .int .i64 l, .slice A n c], .int .i64 s.at_, .int .i64 (if 0 ≤ s.at_ then 0 else s.why)]) ∧ New w' w.heap.size (.slice A n c) s.X ∧ Only (w.heap.size ≤ ·) w w'
theorem ix0 (VA VB : Option Addr) (na ca nb cb' : Nat) (W : World) : (Instr.index 102 (.agg #[.slice VA na ca, .slice VB nb cb']) (.int .i64 0)).run Tryd.prog W = .ok (.slice VA na ca) W := by kernel_rfl
theorem ix1 (VA VB : Option Addr) (na ca nb cb' : Nat) (W : World) : (Instr.index 102 (.agg #[.slice VA na ca, .slice VB nb cb']) (.int .i64 1)).run Tryd.prog W = .ok (.slice VB nb cb') W := by kernel_rfl
set_option maxRecDepth 100000 in
set_option maxHeartbeats 12800000 in
theorem choose_go (w : World) (VA VB : Option Addr) (na ca nb cb' : Nat) (aM bM : List Int) (aX bX : Bytes) (aE bE : Int)
    (hA : ∀ W, Only (w.heap.size ≤ ·) w W → Calls Tryd.prog 60 #[.slice VA na ca] W (GaveME W aM aX aE)) (hB : ∀ W, Only (w.heap.size ≤ ·) w W → Calls Tryd.prog 60 #[.slice VB nb cb'] W (GaveME W bM bX bE)) :
    Calls Tryd.prog 41 #[.slice VA na ca, .slice VB nb cb'] w (GaveC w (rest aM bM aX bX aE bE 0 ch0)) := by
  obtain ⟨FIN, hF⟩ : ∃ F, F = rest aM bM aX bX aE bE 0 ch0 := ⟨_, rfl⟩
  rw [← hF]
  have HF0 := Lib.hid hF
  have HDA := Lib.hid hA
  have HDB := Lib.hid hB
  obtain ⟨w1, hw1⟩ : ∃ W0, W0 = (w.alloc (.cells #[.int .i64 0, .int .i64 0, .int .i64 0, .int .i64 0, .int .i64 0, .int .i64 0, .int .i64 0, .slice none 0 0] 36)).alloc (.cells #[.int .i64 0, .int .i64 0, .int .i64 0, .int .i64 0, .int .i64 0, .int .i64 0, .int .i64 0, .slice none 0 0] 36) := ⟨_, rfl⟩
  have HO0 : Hid (Only (w.heap.size ≤ ·) w w1) := Lib.hid (by rw [hw1]; exact ((Only.refl _ w).alloc (fun _ h => h) _).alloc (fun _ h => h) _)
  have HR0 : Hid (Blk w1 w.heap.size 36 [.int .i64 0, .int .i64 0, .int .i64 0, .int .i64 0, .int .i64 0, .int .i64 0, .int .i64 0, .slice none 0 0]) := Lib.hid (by rw [hw1]; exact (Blk.new w 36 _).alloc _)
  have HB0 : Hid (Blk w1 (w.heap.size + 1) 36 [.int .i64 0, .int .i64 0, .int .i64 0, .int .i64 0, .int .i64 0, .int .i64 0, .int .i64 0, .slice none 0 0]) := Lib.hid (by
    rw [hw1]
    have := Blk.new (w.alloc (.cells #[.int .i64 0, .int .i64 0, .int .i64 0, .int .i64 0, .int .i64 0, .int .i64 0, .int .i64 0, .slice none 0 0] 36)) 36 [.int .i64 0, .int .i64 0, .int .i64 0, .int .i64 0, .int .i64 0, .int .i64 0, .int .i64 0, .slice none 0 0]
    simpa using this)
  clear hF hA hB
  have hx0 := ix0 VA VB na ca nb cb'
  have hx1 := ix1 VA VB na ca nb cb'
  go_enter Tryd.func41, Tryd.ntmps41
  go_upto_region 1 with (fail)
  go_upto_region 2 with (fail)
  rw [← hw1]
  clear hw1
  go_wp2_with (fail)
  go_loopw [18, 8, 9] (fun kv av yv wr => ∃ (k : Nat) (N : List Int) (X : Bytes) (at' y' g' ph' t' x' r' p' l' : Int) (An : Option Addr) (nn cn : Nat), k ≤ 2 ∧ kv = .int .i64 k ∧ av = .int .i64 at' ∧ yv = .int .i64 y' ∧ Hid (FIN = rest aM bM aX bX aE bE k ⟨N, X, at', y'⟩) ∧ Hid (Blk wr (w.heap.size + 1) 36 [.int .i64 g', .int .i64 ph', .int .i64 t', .int .i64 x', .int .i64 r', .int .i64 p', .int .i64 l', .slice An nn cn]) ∧ Hid (N = [g', ph', t', x', r', p', l'] ∧ nn = X.length) ∧ Hid (New wr (w.heap.size + 2) (.slice An nn cn) X) ∧ Hid (Blk wr w.heap.size 36 [.int .i64 0, .int .i64 0, .int .i64 0, .int .i64 0, .int .i64 0, .int .i64 0, .int .i64 0, .slice none 0 0]) ∧ Hid (Only (w.heap.size ≤ ·) w wr)) (fun kv _ _ _ => 2 - (intOf kv).toNat)
  case atStart => exact ⟨0, [0, 0, 0, 0, 0, 0, 0], [], -1, 92, 0, 0, 0, 0, 0, 0, 0, none, 0, 0, by omega, rfl, rfl, rfl, HF0, HB0, Lib.hid ⟨rfl, rfl⟩, Lib.hid (New.nil_ _ _), HR0, HO0⟩
  case round =>
    obtain ⟨k, N, X, at', y', g', ph', t', x', r', p', l', An, nn, cn, hk, rfl, rfl, rfl, HF, HB, HNE, HNN, HR, HO⟩ := hrel
    clear HO0 HR0 HB0 HF0
    rcases (by omega : k = 0 ∨ k = 1 ∨ k = 2) with rfl | rfl | rfl
    · skip
      go_upto_region 6 with (go_at_call 60; (with_reducible refine (HDA.out _ HO.out).mono ?_); rintro ee w3 ⟨g, ph, t, x, r, p, l, A2, n2, c2, hM, hn2, rfl, hnw, ho⟩; have HM := Lib.hid hM; have HN2 := Lib.hid hn2; have HW1 : Hid (w.heap.size + 1 < wr.heap.size) := Lib.hid HB.out.lt; have HNW := Lib.hid hnw; (replace HB := Lib.hid (HB.out.later ho)); (replace HR := Lib.hid (HR.out.later ho)); (replace HNN := Lib.hid (HNN.out.later ho)); (replace HO := Lib.hid (on_new HO.out ho)); clear hM hn2 hnw ho)
      obtain ⟨w4, hw4⟩ : ∃ y, y = w3.alloc (.cells #[.int .i64 g, .int .i64 ph, .int .i64 t, .int .i64 x, .int .i64 r, .int .i64 p, .int .i64 l, .slice A2 n2 c2] 36) := ⟨_, rfl⟩
      have HBX : Hid (Blk w4 w3.heap.size 36 [.int .i64 g, .int .i64 ph, .int .i64 t, .int .i64 x, .int .i64 r, .int .i64 p, .int .i64 l, .slice A2 n2 c2]) := Lib.hid (by rw [hw4]; exact Blk.new w3 36 _)
      have HON : Hid (Only (w3.heap.size ≤ ·) w3 w4) := Lib.hid (by rw [hw4]; exact (Only.refl _ w3).alloc (fun _ h => h) _)
      replace HB := Lib.hid (HB.out.later HON.out)
      replace HR := Lib.hid (HR.out.later HON.out)
      replace HNN := Lib.hid (HNN.out.later HON.out)
      replace HNW := Lib.hid (HNW.out.later HON.out)
      replace HO := Lib.hid (on_new HO.out HON.out)
      rw [← hw4]
      clear hw4 HON

      by_cases h93 : aE = 93
      · have HE3 : Hid (aE = 93) := Lib.hid h93
        have b93 : (aE == 93) = true := by rw [beq_iff_eq]; exact h93
        go_wp2_with (fail)
        go_roundw
        case rel => exact ⟨1, N, X, at', aE, g', ph', t', x', r', p', l', An, nn, cn, by omega, rfl, rfl, rfl, Lib.hid (HF.out.trans (rest0_93 HE3.out)), HB, HNE, HNN, HR, HO⟩
        case measure => simp [intOf]
      have b93 : (aE == 93) = false := by rw [beq_eq_false_iff_ne]; exact h93
      by_cases h0 : aE = 0
      · have b0 : (aE == 0) = true := by rw [beq_iff_eq]; exact h0
        by_cases hsl : bits .and .i64 x 1 = 0
        · have bsl : (bits .and .i64 x 1 == 0) = true := by rw [beq_iff_eq]; exact hsl
          by_cases hgt : x' < x
          · have HT : Hid (aE = 0 ∧ sl (aM.getD 3 0) = 0 ∧ N.getD 3 0 < aM.getD 3 0) := Lib.hid ⟨h0, by rw [HM.out]; exact hsl, by rw [HM.out, HNE.out.1]; exact hgt⟩
            have bgt : decide (x' < x) = true := decide_eq_true hgt
            go_upto_region 8 with (fail)
            obtain ⟨i0, i1, i2, i3, i4, i5, i6, i7⟩ := HBX.out.eight
            obtain ⟨j0, j1, j2, j3, j4, j5, j6, j7⟩ := HB.out.eight
            go_upto_region 9 with (go_at_call 33; (with_reducible refine (MSlot_c _ x).mono ?_); rintro ee w' ⟨rfl, rfl⟩)
            have z0 := HB.out.frozen 0
            have z1 := HB.out.frozen 1
            have z2 := HB.out.frozen 2
            have z3 := HB.out.frozen 3
            have z4 := HB.out.frozen 4
            have z5 := HB.out.frozen 5
            have z6 := HB.out.frozen 6
            have z7 := HB.out.frozen 7
            go_wp2_with (fail)
            go_roundw
            case rel => exact ⟨1, aM, aX, 0, y', g, ph, t, x, r, p, l, A2, n2, c2, by omega, rfl, rfl, rfl, Lib.hid (HF.out.trans (rest0_yes HT.out)), Lib.hid ((((((((HB.out.set_ 0 (.int .i64 g)).set_ 1 (.int .i64 ph)).set_ 2 (.int .i64 t)).set_ 3 (.int .i64 x)).set_ 4 (.int .i64 r)).set_ 5 (.int .i64 p)).set_ 6 (.int .i64 l)).set_ 7 (.slice A2 n2 c2)), Lib.hid ⟨HM.out, HN2.out⟩, Lib.hid ((HNW.out.keep (((((((((Only.refl (· = w.heap.size + 1) w4).setCell (p := ⟨w.heap.size + 1, 0, none⟩) rfl (.int .i64 g)).setCell (p := ⟨w.heap.size + 1, 1, none⟩) rfl (.int .i64 ph)).setCell (p := ⟨w.heap.size + 1, 2, none⟩) rfl (.int .i64 t)).setCell (p := ⟨w.heap.size + 1, 3, none⟩) rfl (.int .i64 x)).setCell (p := ⟨w.heap.size + 1, 4, none⟩) rfl (.int .i64 r)).setCell (p := ⟨w.heap.size + 1, 5, none⟩) rfl (.int .i64 p)).setCell (p := ⟨w.heap.size + 1, 6, none⟩) rfl (.int .i64 l)).setCell (p := ⟨w.heap.size + 1, 7, none⟩) rfl (.slice A2 n2 c2)) (fun j h1 _ h3 => by have := HW1.out; omega)).mono (by have := HW1.out; omega)), Lib.hid (HR.out.only (((((((((Only.refl (· = w.heap.size + 1) w4).setCell (p := ⟨w.heap.size + 1, 0, none⟩) rfl (.int .i64 g)).setCell (p := ⟨w.heap.size + 1, 1, none⟩) rfl (.int .i64 ph)).setCell (p := ⟨w.heap.size + 1, 2, none⟩) rfl (.int .i64 t)).setCell (p := ⟨w.heap.size + 1, 3, none⟩) rfl (.int .i64 x)).setCell (p := ⟨w.heap.size + 1, 4, none⟩) rfl (.int .i64 r)).setCell (p := ⟨w.heap.size + 1, 5, none⟩) rfl (.int .i64 p)).setCell (p := ⟨w.heap.size + 1, 6, none⟩) rfl (.int .i64 l)).setCell (p := ⟨w.heap.size + 1, 7, none⟩) rfl (.slice A2 n2 c2)) (by omega)), Lib.hid (HO.out.trans ((((((((((Only.refl (· = w.heap.size + 1) w4).setCell (p := ⟨w.heap.size + 1, 0, none⟩) rfl (.int .i64 g)).setCell (p := ⟨w.heap.size + 1, 1, none⟩) rfl (.int .i64 ph)).setCell (p := ⟨w.heap.size + 1, 2, none⟩) rfl (.int .i64 t)).setCell (p := ⟨w.heap.size + 1, 3, none⟩) rfl (.int .i64 x)).setCell (p := ⟨w.heap.size + 1, 4, none⟩) rfl (.int .i64 r)).setCell (p := ⟨w.heap.size + 1, 5, none⟩) rfl (.int .i64 p)).setCell (p := ⟨w.heap.size + 1, 6, none⟩) rfl (.int .i64 l)).setCell (p := ⟨w.heap.size + 1, 7, none⟩) rfl (.slice A2 n2 c2)).mono fun j hj => by omega))⟩
            case measure => simp [intOf]
          · have HT : Hid (aE ≠ 93 ∧ ¬ (aE = 0 ∧ sl (aM.getD 3 0) = 0 ∧ N.getD 3 0 < aM.getD 3 0)) := Lib.hid ⟨h93, fun e => hgt (by have h := e.2.2; rw [HM.out, HNE.out.1] at h; exact h)⟩
            have bgt : decide (x' < x) = false := decide_eq_false hgt
            go_upto_region 8 with (fail)
            obtain ⟨i0, i1, i2, i3, i4, i5, i6, i7⟩ := HBX.out.eight
            obtain ⟨j0, j1, j2, j3, j4, j5, j6, j7⟩ := HB.out.eight
            go_wp2_with (go_at_call 33; (with_reducible refine (MSlot_c _ x).mono ?_); rintro ee w' ⟨rfl, rfl⟩)
            go_roundw
            case rel => exact ⟨1, N, X, at', y', g', ph', t', x', r', p', l', An, nn, cn, by omega, rfl, rfl, rfl, Lib.hid (HF.out.trans (rest0_no HT.out)), HB, HNE, HNN, HR, HO⟩
            case measure => simp [intOf]
        · have HT : Hid (aE ≠ 93 ∧ ¬ (aE = 0 ∧ sl (aM.getD 3 0) = 0 ∧ N.getD 3 0 < aM.getD 3 0)) := Lib.hid ⟨h93, fun e => hsl (by have h := e.2.1; rw [HM.out] at h; exact h)⟩
          have bsl : (bits .and .i64 x 1 == 0) = false := by rw [beq_eq_false_iff_ne]; exact hsl
          go_upto_region 8 with (fail)
          obtain ⟨i0, i1, i2, i3, i4, i5, i6, i7⟩ := HBX.out.eight
          obtain ⟨j0, j1, j2, j3, j4, j5, j6, j7⟩ := HB.out.eight
          go_wp2_with (go_at_call 33; (with_reducible refine (MSlot_c _ x).mono ?_); rintro ee w' ⟨rfl, rfl⟩)
          go_roundw
          case rel => exact ⟨1, N, X, at', y', g', ph', t', x', r', p', l', An, nn, cn, by omega, rfl, rfl, rfl, Lib.hid (HF.out.trans (rest0_no HT.out)), HB, HNE, HNN, HR, HO⟩
          case measure => simp [intOf]
      · have HT : Hid (aE ≠ 93 ∧ ¬ (aE = 0 ∧ sl (aM.getD 3 0) = 0 ∧ N.getD 3 0 < aM.getD 3 0)) := Lib.hid ⟨h93, fun e => h0 e.1⟩
        have b0 : (aE == 0) = false := by rw [beq_eq_false_iff_ne]; exact h0
        go_upto_region 8 with (fail)
        go_wp2_with (go_at_call 33; (with_reducible refine (MSlot_c _ x).mono ?_); rintro ee w' ⟨rfl, rfl⟩)
        go_roundw
        case rel => exact ⟨1, N, X, at', y', g', ph', t', x', r', p', l', An, nn, cn, by omega, rfl, rfl, rfl, Lib.hid (HF.out.trans (rest0_no HT.out)), HB, HNE, HNN, HR, HO⟩
        case measure => simp [intOf]
    · skip
      go_upto_region 6 with (go_at_call 60; (with_reducible refine (HDB.out _ HO.out).mono ?_); rintro ee w3 ⟨g, ph, t, x, r, p, l, A2, n2, c2, hM, hn2, rfl, hnw, ho⟩; have HM := Lib.hid hM; have HN2 := Lib.hid hn2; have HW1 : Hid (w.heap.size + 1 < wr.heap.size) := Lib.hid HB.out.lt; have HNW := Lib.hid hnw; (replace HB := Lib.hid (HB.out.later ho)); (replace HR := Lib.hid (HR.out.later ho)); (replace HNN := Lib.hid (HNN.out.later ho)); (replace HO := Lib.hid (on_new HO.out ho)); clear hM hn2 hnw ho)
      obtain ⟨w4, hw4⟩ : ∃ y, y = w3.alloc (.cells #[.int .i64 g, .int .i64 ph, .int .i64 t, .int .i64 x, .int .i64 r, .int .i64 p, .int .i64 l, .slice A2 n2 c2] 36) := ⟨_, rfl⟩
      have HBX : Hid (Blk w4 w3.heap.size 36 [.int .i64 g, .int .i64 ph, .int .i64 t, .int .i64 x, .int .i64 r, .int .i64 p, .int .i64 l, .slice A2 n2 c2]) := Lib.hid (by rw [hw4]; exact Blk.new w3 36 _)
      have HON : Hid (Only (w3.heap.size ≤ ·) w3 w4) := Lib.hid (by rw [hw4]; exact (Only.refl _ w3).alloc (fun _ h => h) _)
      replace HB := Lib.hid (HB.out.later HON.out)
      replace HR := Lib.hid (HR.out.later HON.out)
      replace HNN := Lib.hid (HNN.out.later HON.out)
      replace HNW := Lib.hid (HNW.out.later HON.out)
      replace HO := Lib.hid (on_new HO.out HON.out)
      rw [← hw4]
      clear hw4 HON

      by_cases h93 : bE = 93
      · have HE3 : Hid (bE = 93) := Lib.hid h93
        have b93 : (bE == 93) = true := by rw [beq_iff_eq]; exact h93
        go_wp2_with (fail)
        go_roundw
        case rel => exact ⟨2, N, X, at', bE, g', ph', t', x', r', p', l', An, nn, cn, by omega, rfl, rfl, rfl, Lib.hid (HF.out.trans (rest1_93 HE3.out)), HB, HNE, HNN, HR, HO⟩
        case measure => simp [intOf]
      have b93 : (bE == 93) = false := by rw [beq_eq_false_iff_ne]; exact h93
      by_cases h0 : bE = 0
      · have b0 : (bE == 0) = true := by rw [beq_iff_eq]; exact h0
        by_cases hsl : bits .and .i64 x 1 = 1
        · have bsl : (bits .and .i64 x 1 == 1) = true := by rw [beq_iff_eq]; exact hsl
          by_cases hgt : x' < x
          · have HT : Hid (bE = 0 ∧ sl (bM.getD 3 0) = 1 ∧ N.getD 3 0 < bM.getD 3 0) := Lib.hid ⟨h0, by rw [HM.out]; exact hsl, by rw [HM.out, HNE.out.1]; exact hgt⟩
            have bgt : decide (x' < x) = true := decide_eq_true hgt
            go_upto_region 8 with (fail)
            obtain ⟨i0, i1, i2, i3, i4, i5, i6, i7⟩ := HBX.out.eight
            obtain ⟨j0, j1, j2, j3, j4, j5, j6, j7⟩ := HB.out.eight
            go_upto_region 9 with (go_at_call 33; (with_reducible refine (MSlot_c _ x).mono ?_); rintro ee w' ⟨rfl, rfl⟩)
            have z0 := HB.out.frozen 0
            have z1 := HB.out.frozen 1
            have z2 := HB.out.frozen 2
            have z3 := HB.out.frozen 3
            have z4 := HB.out.frozen 4
            have z5 := HB.out.frozen 5
            have z6 := HB.out.frozen 6
            have z7 := HB.out.frozen 7
            go_wp2_with (fail)
            go_roundw
            case rel => exact ⟨2, bM, bX, 1, y', g, ph, t, x, r, p, l, A2, n2, c2, by omega, rfl, rfl, rfl, Lib.hid (HF.out.trans (rest1_yes HT.out)), Lib.hid ((((((((HB.out.set_ 0 (.int .i64 g)).set_ 1 (.int .i64 ph)).set_ 2 (.int .i64 t)).set_ 3 (.int .i64 x)).set_ 4 (.int .i64 r)).set_ 5 (.int .i64 p)).set_ 6 (.int .i64 l)).set_ 7 (.slice A2 n2 c2)), Lib.hid ⟨HM.out, HN2.out⟩, Lib.hid ((HNW.out.keep (((((((((Only.refl (· = w.heap.size + 1) w4).setCell (p := ⟨w.heap.size + 1, 0, none⟩) rfl (.int .i64 g)).setCell (p := ⟨w.heap.size + 1, 1, none⟩) rfl (.int .i64 ph)).setCell (p := ⟨w.heap.size + 1, 2, none⟩) rfl (.int .i64 t)).setCell (p := ⟨w.heap.size + 1, 3, none⟩) rfl (.int .i64 x)).setCell (p := ⟨w.heap.size + 1, 4, none⟩) rfl (.int .i64 r)).setCell (p := ⟨w.heap.size + 1, 5, none⟩) rfl (.int .i64 p)).setCell (p := ⟨w.heap.size + 1, 6, none⟩) rfl (.int .i64 l)).setCell (p := ⟨w.heap.size + 1, 7, none⟩) rfl (.slice A2 n2 c2)) (fun j h1 _ h3 => by have := HW1.out; omega)).mono (by have := HW1.out; omega)), Lib.hid (HR.out.only (((((((((Only.refl (· = w.heap.size + 1) w4).setCell (p := ⟨w.heap.size + 1, 0, none⟩) rfl (.int .i64 g)).setCell (p := ⟨w.heap.size + 1, 1, none⟩) rfl (.int .i64 ph)).setCell (p := ⟨w.heap.size + 1, 2, none⟩) rfl (.int .i64 t)).setCell (p := ⟨w.heap.size + 1, 3, none⟩) rfl (.int .i64 x)).setCell (p := ⟨w.heap.size + 1, 4, none⟩) rfl (.int .i64 r)).setCell (p := ⟨w.heap.size + 1, 5, none⟩) rfl (.int .i64 p)).setCell (p := ⟨w.heap.size + 1, 6, none⟩) rfl (.int .i64 l)).setCell (p := ⟨w.heap.size + 1, 7, none⟩) rfl (.slice A2 n2 c2)) (by omega)), Lib.hid (HO.out.trans ((((((((((Only.refl (· = w.heap.size + 1) w4).setCell (p := ⟨w.heap.size + 1, 0, none⟩) rfl (.int .i64 g)).setCell (p := ⟨w.heap.size + 1, 1, none⟩) rfl (.int .i64 ph)).setCell (p := ⟨w.heap.size + 1, 2, none⟩) rfl (.int .i64 t)).setCell (p := ⟨w.heap.size + 1, 3, none⟩) rfl (.int .i64 x)).setCell (p := ⟨w.heap.size + 1, 4, none⟩) rfl (.int .i64 r)).setCell (p := ⟨w.heap.size + 1, 5, none⟩) rfl (.int .i64 p)).setCell (p := ⟨w.heap.size + 1, 6, none⟩) rfl (.int .i64 l)).setCell (p := ⟨w.heap.size + 1, 7, none⟩) rfl (.slice A2 n2 c2)).mono fun j hj => by omega))⟩
            case measure => simp [intOf]
          · have HT : Hid (bE ≠ 93 ∧ ¬ (bE = 0 ∧ sl (bM.getD 3 0) = 1 ∧ N.getD 3 0 < bM.getD 3 0)) := Lib.hid ⟨h93, fun e => hgt (by have h := e.2.2; rw [HM.out, HNE.out.1] at h; exact h)⟩
            have bgt : decide (x' < x) = false := decide_eq_false hgt
            go_upto_region 8 with (fail)
            obtain ⟨i0, i1, i2, i3, i4, i5, i6, i7⟩ := HBX.out.eight
            obtain ⟨j0, j1, j2, j3, j4, j5, j6, j7⟩ := HB.out.eight
            go_wp2_with (go_at_call 33; (with_reducible refine (MSlot_c _ x).mono ?_); rintro ee w' ⟨rfl, rfl⟩)
            go_roundw
            case rel => exact ⟨2, N, X, at', y', g', ph', t', x', r', p', l', An, nn, cn, by omega, rfl, rfl, rfl, Lib.hid (HF.out.trans (rest1_no HT.out)), HB, HNE, HNN, HR, HO⟩
            case measure => simp [intOf]
        · have HT : Hid (bE ≠ 93 ∧ ¬ (bE = 0 ∧ sl (bM.getD 3 0) = 1 ∧ N.getD 3 0 < bM.getD 3 0)) := Lib.hid ⟨h93, fun e => hsl (by have h := e.2.1; rw [HM.out] at h; exact h)⟩
          have bsl : (bits .and .i64 x 1 == 1) = false := by rw [beq_eq_false_iff_ne]; exact hsl
          go_upto_region 8 with (fail)
          obtain ⟨i0, i1, i2, i3, i4, i5, i6, i7⟩ := HBX.out.eight
          obtain ⟨j0, j1, j2, j3, j4, j5, j6, j7⟩ := HB.out.eight
          go_wp2_with (go_at_call 33; (with_reducible refine (MSlot_c _ x).mono ?_); rintro ee w' ⟨rfl, rfl⟩)
          go_roundw
          case rel => exact ⟨2, N, X, at', y', g', ph', t', x', r', p', l', An, nn, cn, by omega, rfl, rfl, rfl, Lib.hid (HF.out.trans (rest1_no HT.out)), HB, HNE, HNN, HR, HO⟩
          case measure => simp [intOf]
      · have HT : Hid (bE ≠ 93 ∧ ¬ (bE = 0 ∧ sl (bM.getD 3 0) = 1 ∧ N.getD 3 0 < bM.getD 3 0)) := Lib.hid ⟨h93, fun e => h0 e.1⟩
        have b0 : (bE == 0) = false := by rw [beq_eq_false_iff_ne]; exact h0
        go_upto_region 8 with (fail)
        go_wp2_with (go_at_call 33; (with_reducible refine (MSlot_c _ x).mono ?_); rintro ee w' ⟨rfl, rfl⟩)
        go_roundw
        case rel => exact ⟨2, N, X, at', y', g', ph', t', x', r', p', l', An, nn, cn, by omega, rfl, rfl, rfl, Lib.hid (HF.out.trans (rest1_no HT.out)), HB, HNE, HNN, HR, HO⟩
        case measure => simp [intOf]
    · skip
      have HE : Hid (FIN = ⟨N, X, at', y'⟩) := HF
      obtain ⟨j0, j1, j2, j3, j4, j5, j6, j7⟩ := HB.out.eight
      obtain ⟨r0, r1, r2, r3, r4, r5, r6, r7⟩ := HR.out.eight
      have z0 := HR.out.frozen 0
      have z1 := HR.out.frozen 1
      have z2 := HR.out.frozen 2
      have z3 := HR.out.frozen 3
      have z4 := HR.out.frozen 4
      have z5 := HR.out.frozen 5
      have z6 := HR.out.frozen 6
      have z7 := HR.out.frozen 7
      by_cases hat : 0 ≤ at'
      · have hd : decide (0 ≤ at') = true := decide_eq_true hat
        have HW : Hid ((if 0 ≤ FIN.at_ then (0 : Int) else FIN.why) = 0) := Lib.hid (by rw [HE.out]; exact if_pos hat)
        clear hat
        go_wp2
        refine bodyPost_ret (results_ctt rfl rfl (load_meta ((((((((HR.out.set_ 0 (.int .i64 g')).set_ 1 (.int .i64 ph')).set_ 2 (.int .i64 t')).set_ 3 (.int .i64 x')).set_ 4 (.int .i64 r')).set_ 5 (.int .i64 p')).set_ 6 (.int .i64 l')).set_ 7 (.slice An nn cn)))) rfl ?_
        refine ⟨g', ph', t', x', r', p', l', An, nn, cn, by rw [HE.out]; exact HNE.out.1, by rw [HE.out]; exact HNE.out.2, by rw [HW.out, HE.out]; rfl, ?_, HO.out.trans ((((((((((Only.refl (· = w.heap.size) wr).setCell (p := ⟨w.heap.size, 0, none⟩) rfl (.int .i64 g')).setCell (p := ⟨w.heap.size, 1, none⟩) rfl (.int .i64 ph')).setCell (p := ⟨w.heap.size, 2, none⟩) rfl (.int .i64 t')).setCell (p := ⟨w.heap.size, 3, none⟩) rfl (.int .i64 x')).setCell (p := ⟨w.heap.size, 4, none⟩) rfl (.int .i64 r')).setCell (p := ⟨w.heap.size, 5, none⟩) rfl (.int .i64 p')).setCell (p := ⟨w.heap.size, 6, none⟩) rfl (.int .i64 l')).setCell (p := ⟨w.heap.size, 7, none⟩) rfl (.slice An nn cn)).mono fun j hj => by omega)⟩
        rw [HE.out]
        exact (HNN.out.keep (((((((((Only.refl (· = w.heap.size) wr).setCell (p := ⟨w.heap.size, 0, none⟩) rfl (.int .i64 g')).setCell (p := ⟨w.heap.size, 1, none⟩) rfl (.int .i64 ph')).setCell (p := ⟨w.heap.size, 2, none⟩) rfl (.int .i64 t')).setCell (p := ⟨w.heap.size, 3, none⟩) rfl (.int .i64 x')).setCell (p := ⟨w.heap.size, 4, none⟩) rfl (.int .i64 r')).setCell (p := ⟨w.heap.size, 5, none⟩) rfl (.int .i64 p')).setCell (p := ⟨w.heap.size, 6, none⟩) rfl (.int .i64 l')).setCell (p := ⟨w.heap.size, 7, none⟩) rfl (.slice An nn cn)) (fun j h1 _ h3 => by omega)).mono (by omega)
      · have hd : decide (0 ≤ at') = false := decide_eq_false hat
        have HW : Hid ((if 0 ≤ FIN.at_ then (0 : Int) else FIN.why) = y') := Lib.hid (by rw [HE.out]; exact if_neg hat)
        clear hat
        go_wp2
        refine bodyPost_ret (results_ctt rfl rfl (load_meta ((((((((HR.out.set_ 0 (.int .i64 g')).set_ 1 (.int .i64 ph')).set_ 2 (.int .i64 t')).set_ 3 (.int .i64 x')).set_ 4 (.int .i64 r')).set_ 5 (.int .i64 p')).set_ 6 (.int .i64 l')).set_ 7 (.slice An nn cn)))) rfl ?_
        refine ⟨g', ph', t', x', r', p', l', An, nn, cn, by rw [HE.out]; exact HNE.out.1, by rw [HE.out]; exact HNE.out.2, by rw [HW.out, HE.out]; rfl, ?_, HO.out.trans ((((((((((Only.refl (· = w.heap.size) wr).setCell (p := ⟨w.heap.size, 0, none⟩) rfl (.int .i64 g')).setCell (p := ⟨w.heap.size, 1, none⟩) rfl (.int .i64 ph')).setCell (p := ⟨w.heap.size, 2, none⟩) rfl (.int .i64 t')).setCell (p := ⟨w.heap.size, 3, none⟩) rfl (.int .i64 x')).setCell (p := ⟨w.heap.size, 4, none⟩) rfl (.int .i64 r')).setCell (p := ⟨w.heap.size, 5, none⟩) rfl (.int .i64 p')).setCell (p := ⟨w.heap.size, 6, none⟩) rfl (.int .i64 l')).setCell (p := ⟨w.heap.size, 7, none⟩) rfl (.slice An nn cn)).mono fun j hj => by omega)⟩
        rw [HE.out]
        exact (HNN.out.keep (((((((((Only.refl (· = w.heap.size) wr).setCell (p := ⟨w.heap.size, 0, none⟩) rfl (.int .i64 g')).setCell (p := ⟨w.heap.size, 1, none⟩) rfl (.int .i64 ph')).setCell (p := ⟨w.heap.size, 2, none⟩) rfl (.int .i64 t')).setCell (p := ⟨w.heap.size, 3, none⟩) rfl (.int .i64 x')).setCell (p := ⟨w.heap.size, 4, none⟩) rfl (.int .i64 r')).setCell (p := ⟨w.heap.size, 5, none⟩) rfl (.int .i64 p')).setCell (p := ⟨w.heap.size, 6, none⟩) rfl (.int .i64 l')).setCell (p := ⟨w.heap.size, 7, none⟩) rfl (.slice An nn cn)) (fun j h1 _ h3 => by omega)).mono (by omega)
/-- What Choose tells of two pages. -/
def mdC (a b : Bytes) : ChS := rest (mdM a) (mdM b) (mdX a) (mdX b) (mdE a) (mdE b) 0 ch0
theorem MChoose_c (w : World) (v u : Value) (a b : Bytes) (hG : Gens w) (ha : Src w v a) (hb : Src w u b) (hn : a.length ≤ 65536) (hm : b.length ≤ 65536) : Calls Tryd.prog 41 #[v, u] w (GaveC w (mdC a b)) := by
  obtain ⟨A, c, rfl, _⟩ := id ha
  obtain ⟨B, d, rfl, _⟩ := id hb
  exact choose_go w A B _ c _ d _ _ _ _ _ _ (fun W hW => MDecode_c W _ a (hG.later hW) (ha.later hW) hn) (fun W hW => MDecode_c W _ b (hG.later hW) (hb.later hW) hm)
end Go.Proofs.YtopaponemjaenaaDoor
