/-
  Set of the document: the pages of runs as a row of yes and no.
-/
import Derived.Test.YtjnaejogclmooaaRref
import Derived.Test.YtjnaejogclmooaaPlan
import Derived.Test.YtjnaejogclmooaaCopy
import Derived.Laws.MakeOwn
set_option linter.unusedVariables false
namespace Go.Proofs.Ytjnaejogclmooaa
open Go.RowKit

/-- The cells of a row of m yes and no. -/
def bf (f : Nat → Bool) (m : Nat) : List Value := (List.range m).map fun p => .bool (f p)
theorem bf_length (f : Nat → Bool) (m : Nat) : (bf f m).length = m := by simp [bf]
theorem bf_get (f : Nat → Bool) {m p : Nat} (h : p < m) : (bf f m)[p]? = some (.bool (f p)) := by
  simp [bf, List.getElem?_range h]
theorem bf_set {f f' : Nat → Bool} {m p : Nat} {b : Bool} (h : ∀ q, q < m → f' q = if q = p then b else f q) : (bf f m).set p (.bool b) = bf f' m := by
  apply List.ext_getElem?
  intro i
  rw [List.getElem?_set, bf_length]
  by_cases hi : i < m
  · rw [bf_get f' hi, h i hi, bf_get f hi]
    by_cases e : p = i
    · subst e; simp [hi]
    · rw [if_neg e, if_neg (Ne.symm e)]
  · have hn : (bf f' m)[i]? = none := List.getElem?_eq_none (by rw [bf_length]; omega)
    have hn' : (bf f m)[i]? = none := List.getElem?_eq_none (by rw [bf_length]; omega)
    rw [hn, hn']
    split
    · rw [if_neg (by omega)]
    · rfl
theorem bf_congr {f f' : Nat → Bool} {m : Nat} (h : ∀ q, q < m → f q = f' q) : bf f m = bf f' m := by
  apply List.ext_getElem?
  intro i
  by_cases hi : i < m
  · rw [bf_get f hi, bf_get f' hi, h i hi]
  · rw [List.getElem?_eq_none (by rw [bf_length]; omega), List.getElem?_eq_none (by rw [bf_length]; omega)]

def zB : Value := .bool false
theorem infoB : (Try.prog.info? 4).map (fun i => (i.zero, i.size, i.bytes)) = some (some zB, 1, 1) := by kernel_rfl
theorem madeB (n : Nat) : madeCells zB.cells n = (bf (fun _ => false) n).toArray := by
  unfold madeCells
  apply Array.ext
  · simp [bf]
  · intro i h1 h2
    simp [Value.cells, zB, bf, Nat.mod_one]
theorem run_makeB (n : Nat) (hn : n ≤ 65536) (W : World) : (Instr.makeSlice 26 (.int .i64 (n : Int)) (.int .i64 (n : Int))).run Try.prog W = .ok (.slice (some ⟨W.heap.size, 0, none⟩) n n) (W.alloc (.cells (bf (fun _ => false) n).toArray 4)) := by
  obtain ⟨i0, hi0, hz0, hz1, hz2⟩ := info_parts infoB
  have hr := run_make (P := Try.prog) W 26 4 i0 _ Try.underlying26 hi0 hz0 .i64 .i64 (n : Int) (n : Int) (by omega) (by omega) (by rw [hz2]; omega) (by omega)
  simp only [Int.toNat_natCast] at hr
  rw [madeB, hz1, Nat.mul_one] at hr
  exact hr

def setOf (l : List R) : Nat → Bool := fun p => inn (known l) p
/-- A row of yes and no of the call's own. -/
def MakesB (w : World) (f : Nat → Bool) (m : Nat) (e : Ending) (w' : World) : Prop := ∃ g, e = .returned (.slice (some ⟨g, 0, none⟩) m m) ∧ w.heap.size ≤ g ∧ Blk w' g 4 (bf f m) ∧ Only (w.heap.size ≤ ·) w w'

theorem known_of {l : List R} (h : right l = true) : known l = l := if_pos h
theorem known_not {l : List R} (h : right l = false) : known l = [] := if_neg (by rw [h]; decide)
theorem inn_snoc {l : List R} {k : Nat} {x : R} (h : l[k]? = some x) (p : Int) : inn (l.take (k + 1)) p = (inn (l.take k) p || decide (x.1 ≤ p ∧ p < x.1 + x.2)) := by
  rw [List.take_add_one, h]
  simp [inn]

set_option maxRecDepth 100000 in
set_option maxHeartbeats 3200000 in
theorem Set_c (w : World) (A : Option Addr) (n c m : Nat) (l : List R) (h : Rs w A l) (hl : l.length = n) (hr : ∀ x ∈ l, I64 x) (hn : n ≤ c) (hc : c ≤ 9223372036854775807) (hm : m ≤ 65536) :
    Calls Try.prog 12 #[.slice A n c, .int .i64 m] w (MakesB w (setOf l) m) := by
  have HRC : Hid (∀ W : World, Only (w.heap.size ≤ ·) w W → Calls Try.prog 16 #[.slice A n c] W (Told W (.bool (right l)))) := fun W hW => rRight_c W A n c l (h.later hW) hl hr hn hc
  have HS := Lib.hid h
  have HL := Lib.hid hl
  have hmk := run_makeB m hm
  have HB0 : Hid (Blk (w.alloc (.cells (bf (fun _ => false) m).toArray 4)) w.heap.size 4 (bf (fun _ => false) m)) := Blk.new w _ _
  have HO0 : Hid (Only (w.heap.size ≤ ·) w (w.alloc (.cells (bf (fun _ => false) m).toArray 4))) := (Only.refl _ w).alloc (fun _ h => h) _
  clear h hl hr
  obtain ⟨b, hb⟩ : ∃ b, b = right l := ⟨_, rfl⟩
  rw [← hb] at HRC
  have HE := Lib.hid hb
  clear hb
  cases b
  · have HF : Hid (bf (fun _ => false) m = bf (setOf l) m) := bf_congr fun q _ => by unfold setOf; rw [known_not HE.out.symm]; rfl
    go_enter Try.func12, Try.ntmps12
    go_wp2_with (go_at_call 16; refine (HRC.out _ HO0.out).mono ?_; rintro e w1 ⟨rfl, ho1⟩; have HO1 := Lib.hid ho1; clear ho1)
    go_ret
    exact ⟨_, rfl, Nat.le_refl _, by rw [← HF.out]; exact HB0.out.later HO1.out, on_new HO0.out HO1.out⟩
  · go_enter Try.func12, Try.ntmps12
    go_wp2_with (go_at_call 16; refine (HRC.out _ HO0.out).mono ?_; rintro e w1 ⟨rfl, ho1⟩; have HO1 := Lib.hid (on_new HO0.out ho1); have HB1 := Lib.hid (HB0.out.later ho1); clear ho1)
    go_loopw [6] (fun i wr => ∃ (k : Nat), k ≤ n ∧ i = .int .i64 k ∧ Blk wr w.heap.size 4 (bf (fun p => inn (l.take k) p) m) ∧ Only (w.heap.size ≤ ·) w wr) (fun i _ => n - (intOf i).toNat)
    case atStart => exact ⟨0, Nat.zero_le _, rfl, HB1.out, HO1.out⟩
    case round =>
      obtain ⟨k, hk, rfl, hbk, ho⟩ := hrel
      have HO := Lib.hid ho
      have HBK := Lib.hid hbk
      clear ho hbk
      by_cases hlt : k < n
      · obtain ⟨g, off, x, rfl, hg, hx, hc1, hc2⟩ := HS.out.at_ (k := k) (by rw [HL.out]; exact hlt)
        have HX := Lib.hid (inn_snoc hx)
        have hmx := (may_iff x).1 (right_may HE.out.symm x (List.mem_of_getElem? hx))
        obtain ⟨x1, x2⟩ := x
        simp only at hmx
        clear hx
        obtain ⟨x1, rfl⟩ : ∃ x1' : Nat, x1 = x1' := ⟨x1.toNat, by omega⟩
        obtain ⟨x2, rfl⟩ : ∃ x2' : Nat, x2 = x2' := ⟨x2.toNat, by omega⟩
        have hn' : (k : Int) < (n : Int) := by omega
        have hk0 : (0 : Int) ≤ (k : Int) := by omega
        have HB2 : Hid (Blk wr w.heap.size 4 (bf (fun p => inn (l.take k) p || decide (x1 ≤ p ∧ p < x1)) m)) := by
          have e : bf (fun p => inn (l.take k) p) m = bf (fun p => inn (l.take k) p || decide (x1 ≤ p ∧ p < x1)) m := bf_congr fun q _ => by
            rw [decide_eq_false (by omega), Bool.or_false]
          show Blk _ _ _ _
          rw [← e]; exact HBK.out
        have HKEEP : Hid (∀ W : World, Only (w.heap.size ≤ ·) w W → W.cell? ⟨g, off + k * 2, none⟩ = some (.int .i64 (x1 : Int)) ∧ W.cell? ⟨g, off + k * 2 + 1, none⟩ = some (.int .i64 (x2 : Int))) := fun W hW => ⟨(hW.cell (p := ⟨g, off + k * 2, none⟩) (Nat.not_le.2 hg)).trans hc1, (hW.cell (p := ⟨g, off + k * 2 + 1, none⟩) (Nat.not_le.2 hg)).trans hc2⟩
        obtain ⟨hr1, hr2⟩ := HKEEP.out _ HO.out
        clear HBK hc1 hc2
        go_wp2
        go_loopw [7] (fun i wq => ∃ (p : Nat), x1 ≤ p ∧ p ≤ x1 + x2 ∧ i = .int .i64 p ∧ Blk wq w.heap.size 4 (bf (fun q => inn (l.take k) q || decide (x1 ≤ q ∧ q < p)) m) ∧ Only (w.heap.size ≤ ·) w wq) (fun i _ => x1 + x2 - (intOf i).toNat)
        case atStart => exact ⟨x1, Nat.le_refl _, by omega, rfl, HB2.out, HO.out⟩
        case round =>
          obtain ⟨p, hp1, hp2, rfl, hbp, hop⟩ := hrel
          have HOP := Lib.hid hop
          have HBP := Lib.hid hbp
          clear hop hbp
          obtain ⟨hq1, hq2⟩ := HKEEP.out _ HOP.out
          have aw : IntKind.i64.wrap ((x1 : Int) + (x2 : Int)) = (x1 : Int) + (x2 : Int) := IntWalk.i64_in _ (by omega)
          by_cases hpe : p < x1 + x2
          · have hd1 : decide ((p : Int) < (x1 : Int) + (x2 : Int)) = true := decide_eq_true (by omega)
            have hd1' : decide (p < x1 + x2) = true := decide_eq_true hpe
            by_cases hpm : p < m
            · have hd2 : decide ((p : Int) < (m : Int)) = true := decide_eq_true (by omega)
              have hd2' : decide (p < m) = true := decide_eq_true hpm
              have HN : Hid (∀ W : World, Blk W w.heap.size 4 (bf (fun q => inn (l.take k) q || decide (x1 ≤ q ∧ q < p)) m) → Blk (W.setCell ⟨w.heap.size, p, none⟩ (.bool true)) w.heap.size 4 (bf (fun q => inn (l.take k) q || decide (x1 ≤ q ∧ q < p + 1)) m)) := fun W hW => by
                have := hW.set_ p (.bool true)
                rwa [bf_set (f' := fun q => inn (l.take k) q || decide (x1 ≤ q ∧ q < p + 1)) fun q hq => ?_] at this
                by_cases e : q = p
                · subst e; simp [hp1]
                · rw [if_neg e]; congr 1; exact decide_eq_decide.2 (by omega)
              obtain ⟨ob, hob⟩ : ∃ ob, wr.cell? ⟨w.heap.size, p, none⟩ = some (.bool ob) := ⟨_, (HBP.out.cell p).trans (bf_get _ hpm)⟩
              have hfz := HBP.out.frozen p
              go_wp2_with (fail)
              go_quiet (fail)
              go_wp2
              go_roundw
              case rel => exact ⟨p + 1, by omega, by omega, by go_num, (by first | exact (HN.out _ HBP.out).drewN _ | exact HN.out _ (HBP.out.drewN _)), (by first | exact (HOP.out.setCell (p := ⟨w.heap.size, p, none⟩) (Nat.le_refl _) _).drewN _ | exact (HOP.out.drewN _).setCell (p := ⟨w.heap.size, p, none⟩) (Nat.le_refl _) _)⟩
              case measure => simp [intOf]; omega
            · have hd2 : decide ((p : Int) < (m : Int)) = false := decide_eq_false (by omega)
              have hd2' : decide (p < m) = false := decide_eq_false hpm
              have HN : Hid (bf (fun q => inn (l.take k) q || decide (x1 ≤ q ∧ q < p)) m = bf (fun q => inn (l.take (k + 1)) q) m) := bf_congr fun q hq => by
                rw [HX.out]; congr 1; exact decide_eq_decide.2 (by omega)
              go_wp2_with (fail)
              go_quiet (fail)
              go_wp2
              go_roundw
              case rel => exact ⟨k + 1, by omega, by go_num, by rw [← HN.out]; exact HBP.out.drewN _, HOP.out.drewN _⟩
              case measure => simp [intOf]; omega
          · have hd1 : decide ((p : Int) < (x1 : Int) + (x2 : Int)) = false := decide_eq_false (by omega)
            have hd1' : decide (p < x1 + x2) = false := decide_eq_false hpe
            have HN : Hid (bf (fun q => inn (l.take k) q || decide (x1 ≤ q ∧ q < p)) m = bf (fun q => inn (l.take (k + 1)) q) m) := bf_congr fun q hq => by
              rw [HX.out]; congr 1; exact decide_eq_decide.2 (by omega)
            go_wp2_with (fail)
            go_quiet (fail)
            go_wp2
            go_roundw
            case rel => exact ⟨k + 1, by omega, by go_num, by rw [← HN.out]; exact HBP.out.drewN _, HOP.out.drewN _⟩
            case measure => simp [intOf]; omega
      · obtain rfl : k = n := by omega
        have hkm : ¬ (k : Int) < (k : Int) := by omega
        have HF : Hid (bf (fun p => inn (l.take k) p) m = bf (setOf l) m) := bf_congr fun q _ => by unfold setOf; rw [known_of HE.out.symm, List.take_of_length_le (by rw [HL.out]; exact Nat.le_refl _)]
        go_wp2
        go_ret
        exact ⟨_, rfl, Nat.le_refl _, by rw [← HF.out]; exact HBK.out, HO.out⟩
end Go.Proofs.Ytjnaejogclmooaa
