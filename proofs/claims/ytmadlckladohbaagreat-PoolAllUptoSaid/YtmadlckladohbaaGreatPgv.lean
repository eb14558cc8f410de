/-
  A pool: inUse and Give.
-/
import Derived.Test.YtmadlckladohbaaGreatPhb
import Derived.Test.YtmadlckladohbaaGreatPtl
set_option linter.unusedVariables false
namespace Go.Proofs.YtmadlckladohbaaGreat
open Go.RowKit

theorem grown_cell {w w' : World} {mb : Nat} {a : Addr} {v : Value} (h : w.grownBy w' (some mb)) (hc : w.cell? a = some v) (hne : a.block ≠ mb) : w'.cell? a = some v := by
  have hlt := World.block_lt_of_cell? w _ hc
  rw [World.cell?_of_block (h.block a.block hlt (fun e => hne (by cases e; rfl)))]
  exact hc
theorem one_right {x : R} (h : may x = true) : right [x] = true := by
  rw [right_cons]
  exact ⟨h, rfl⟩
theorem mem_one {x : R} (h : may x = true) (p : Int) : Mem [x] p ↔ within x p := by
  unfold Mem
  rw [known_of (one_right h), inn_cons]
  simp [inn]
theorem mem_row {u : List R} {S : Int → Prop} (h : IsRow u S) (p : Int) : Mem u p ↔ S p := by
  unfold Mem
  rw [known_of h.1]
  exact h.2 p
def Unused (S : PS) (x : R) : Prop := ∀ p, within x p → ¬ S.F p ∧ ∀ t, ¬ S.H t p
def UseSays (w : World) (S : PS) (x : R) (e : Ending) (w' : World) : Prop := (∃ b : Bool, e = .returned (.bool b) ∧ (b = true ↔ Unused S x)) ∧ Only (w.heap.size ≤ ·) w w'

set_option maxRecDepth 100000 in
set_option maxHeartbeats 6400000 in
theorem inUse_c (w : World) (pb mb n : Nat) (S : PS) (vx : Value) (x : R) (h : At w pb mb n S) (hx : Row w vx [x]) (hm : may x = true) :
    Calls Tryz.prog 40 #[.pointer (some ⟨pb, 0, none⟩), vx] w (UseSays w S x) := by
  obtain ⟨fv, fl, D, h⟩ := h
  have HAT := Lib.hid h
  obtain ⟨c0, c1, c2, c3⟩ := h.cells
  have hown : w.ownsMap Tryz.prog 3 Rv mb n D := h.2.2.2.2.1
  have HH : Hid (HoldsAt w pb D S.H) := Lib.hid h.2.2.2.2.2
  have HX := Lib.hid hx
  have HM := Lib.hid hm
  have HXI : Hid (∀ y ∈ [x], I64 y) := Lib.hid (i64_of (one_right hm))
  obtain ⟨A, nn, cc, rfl⟩ := h.2.1.form
  clear h hx hm c0 c1
  obtain ⟨rb, hrb⟩ : ∃ rb, rb = w.heap.size := ⟨_, rfl⟩
  have HRB := Lib.hid hrb
  go_enter Tryz.func40, Tryz.ntmps40
  go_wp2_with (first
    | (at_range; refine wpList_range_own _ rfl _ 66 rfl 3 33 keyed Tryz.underlying66 Rv mb n D rfl hown ?_; intro w0 hrg0 hg0 hs0)
    | (fail))
  rw [← hrb] at hrg0 ⊢
  clear hrb
  have HG0 : Hid (Only (w.heap.size ≤ ·) w w0) := Lib.hid ((Only.refl _ w).grown hg0 (fun _ h => h) (fun g e => by cases e))
  have HRG0 := Lib.hid hrg0
  clear hs0 hg0 hrg0
  go_frame
  go_loopw [] (fun wr => ∃ (left : Lit → Bool) (cnt : Nat), Hid (wr.ranges Tryz.prog 3 Rv mb rb n D left cnt) ∧ Hid (∀ t p, left (.int .i64 t) = false → S.H t p → ¬ within x p) ∧ Hid (Only (w.heap.size ≤ ·) w wr))
    (fun wr => wr.rangeLeft mb rb)
  case atStart => exact ⟨_, _, HRG0, Lib.hid fun t p hl ht => absurd ht (held_nil HH.out hl p), HG0⟩
  case round =>
    obtain ⟨left, cnt, HRG, HNO, HOR⟩ := hrel
    have hrg := HRG.out
    go_wp2_with (first
      | (at_next; refine wpList_next_ranges _ rfl _ rfl 3 keyed Rv (Value.int .i64) id (fun key kl hkey => by obtain ⟨x, rfl, _⟩ := Maps.keyOf_int_inv Tryz.underlying3 hkey; exact ⟨x, rfl⟩) (fun v _ _ => ⟨v, rfl⟩) mb rb n D left cnt rfl hrg ?_ ?_)
      | (fail))
    · intro _ hl0
      have hat := HAT.out.later HOR.out
      obtain ⟨c0, c1, c2, c3⟩ := hat.cells
      have HAR : Hid (Row wr (.slice A nn cc) fl) := Lib.hid hat.2.1
      have HXR := Lib.hid (HX.out.later HOR.out)
      have HFI := Lib.hid (i64_of HAT.out.2.2.2.1.1)
      clear c0 c1 hat
      go_wp2_with (go_at_call 50; (with_reducible refine (Meet_c wr (.slice A nn cc) vx fl [x] HAR.out HXR.out HFI.out HXI.out).mono ?_); rintro e w2 ⟨r, rfl, hr, ho⟩; have HR := Lib.hid hr; have HO2 := Lib.hid ho; clear ho hr)
      go_ret
      refine ⟨⟨_, rfl, ?_⟩, on_new HOR.out HO2.out⟩
      have hr := HR.out
      have e2 : ∀ p, Mem fl p ↔ S.F p := mem_row HAT.out.2.2.2.1
      constructor
      · intro hb p hp
        refine ⟨fun hf => ?_, fun t ht => HNO.out t p (hl0 _) ht hp⟩
        have := hr.2 ⟨p, (e2 p).2 hf, (mem_one HM.out p).2 hp⟩
        rw [this] at hb
        simp at hb
      · intro hu
        cases r
        · rfl
        · obtain ⟨p, h1, h2⟩ := hr.1 rfl
          exact absurd ((e2 p).1 h1) (hu p ((mem_one HM.out p).1 h2)).1
    · intro t c kl yd yp w1 cnt1 hkey hlx hv hat hrg1 hlt hg1 hs1 hen
      obtain ⟨x', ex, rfl, hwx⟩ := Maps.keyOf_int_inv Tryz.underlying3 hkey
      cases ex
      obtain ⟨rfl, rfl⟩ : yd = .held c ∧ yp = [] := by
        have := Option.some.inj hv
        cases this
        exact ⟨rfl, rfl⟩
      obtain ⟨v, l, e1, e2, e3, e4⟩ := HH.out t
      rw [hat] at e1
      obtain rfl : c = v := by injection e1
      have ho1 : Only (w.heap.size ≤ ·) w w1 := HOR.out.grown hg1 (fun _ h => h) (fun g e => by cases e; exact Nat.le_of_eq HRB.out.symm)
      have HO1 := Lib.hid ho1
      have HROW := Lib.hid (e2.later ho1)
      have HISR := Lib.hid e4
      have HI64 := Lib.hid (i64_of e4.1)
      have HXR := Lib.hid (HX.out.later ho1)
      have HRG1 := Lib.hid hrg1
      have HLT := Lib.hid hlt
      have HREN := Lib.hid (And.intro HRG.out.left_eq trivial)
      clear hkey hlx hv hat hrg1 hlt hg1 hs1 e1 e2 e3 e4 ho1 hrg
      by_cases hmt : ∃ p, S.H t p ∧ within x p
      · have HMC : Hid (Calls Tryz.prog 50 #[c, vx] w1 (Told w1 (.bool true))) := Lib.hid ((Meet_c w1 c vx l [x] HROW.out HXR.out HI64.out HXI.out).mono fun e w' ⟨r, h1, h2, h3⟩ => ⟨by
          obtain ⟨p, p1, p2⟩ := hmt
          rw [h1, h2.2 ⟨p, (mem_row HISR.out p).2 p1, (mem_one HM.out p).2 p2⟩], h3⟩)
        have HMT := Lib.hid hmt
        clear hmt
        go_wp2_with (go_at_call 50; (with_reducible refine HMC.out.mono ?_); rintro e w2 ⟨rfl, ho2⟩; have HO2 := Lib.hid (on_new HO1.out ho2); clear ho2)
        go_ret
        refine ⟨⟨_, rfl, ⟨(fun h => by cases h), fun hu => ?_⟩⟩, HO2.out⟩
        obtain ⟨p, p1, p2⟩ := HMT.out
        exact absurd p1 ((hu p p2).2 t)
      · have HMC : Hid (Calls Tryz.prog 50 #[c, vx] w1 (Told w1 (.bool false))) := Lib.hid ((Meet_c w1 c vx l [x] HROW.out HXR.out HI64.out HXI.out).mono fun e w' ⟨r, h1, h2, h3⟩ => ⟨by
          rw [h1]
          cases r
          · rfl
          · obtain ⟨p, p1, p2⟩ := h2.1 rfl
            exact absurd ⟨p, (mem_row HISR.out p).1 p1, (mem_one HM.out p).1 p2⟩ hmt, h3⟩)
        have HMT : Hid (∀ s p, (fun z : Lit => left z && !z.sameKey (.int .i64 t)) (.int .i64 s) = false → S.H s p → ¬ within x p) := Lib.hid fun s p h1 h2 h3 => by
          simp only [same_key] at h1
          by_cases e : s = t
          · subst e; exact hmt ⟨p, h2, h3⟩
          · exact HNO.out s p (by simpa [e] using h1) h2 h3
        clear hmt
        go_wp2_with (go_at_call 50; (with_reducible refine HMC.out.mono ?_); rintro e w2 ⟨rfl, ho2⟩; have HRG2 := Lib.hid (HRG1.out.kept (new_grown ho2 none) (by simp) (by simp)); have HO2 := Lib.hid (on_new HO1.out ho2); clear ho2)
        go_roundw
        case rel => exact ⟨_, cnt1, HRG2, HMT, HO2⟩
        case measure => rw [HRG2.out.left_eq, HREN.out.1]; exact HLT.out

def GaveS (S : PS) (t : Int) (x : R) : PS := { S with H := fun u p => S.H u p ∨ (u = t ∧ within x p) }
def GiveArg (S : PS) (t : Int) (x : R) : Prop := t < 0 ∨ x.1 < 2 ∨ x.2 < 1 ∨ S.pages - x.1 < x.2
/-- The block of a run that is handed in. -/
def boxed (w : World) (x : R) : World := w.alloc (.cells #[.int .i64 x.1, .int .i64 x.2] 54)
theorem boxed_only (w : World) (x : R) : Only (w.heap.size ≤ ·) w (boxed w x) := (Only.refl _ w).alloc (fun _ h => h) _

set_option maxRecDepth 100000 in
set_option maxHeartbeats 6400000 in
theorem Give_arg (w : World) (pb mb n : Nat) (S : PS) (t : Int) (x : R) (h : At w pb mb n S) (hok : S.Ok) (hi : I64 x) (ha : GiveArg S t x) :
    Calls Tryz.prog 13 #[.pointer (some ⟨pb, 0, none⟩), .int .i64 t, .agg #[.int .i64 x.1, .int .i64 x.2]] w (Told w (.int .i64 1)) := by
  obtain ⟨fv, fl, D, h⟩ := h
  have HB0 : Blk (w.alloc (.cells #[.int .i64 x.1, .int .i64 x.2] 54)) w.heap.size 54 [.int .i64 x.1, .int .i64 x.2] := Blk.new w _ [.int .i64 x.1, .int .i64 x.2]
  have HOB : Hid (Only (w.heap.size ≤ ·) w (w.alloc (.cells #[.int .i64 x.1, .int .i64 x.2] 54))) := Lib.hid (boxed_only w x)
  have c0 := (h.later HOB.out).cells.1
  have q0 := HB0.cell 0
  have q1 := HB0.cell 1
  simp at q0 q1
  have o1 := hok.hi
  have o2 := hok.top
  have o3 := hok.lo
  clear h HB0 hok
  obtain ⟨x1, x2⟩ := x
  unfold GiveArg at ha
  unfold I64 at hi
  obtain ⟨pg, lim, F, H⟩ := S
  simp only at c0 q0 q1 ha o1 o2 o3 hi HOB
  by_cases d1 : t < 0
  · have e1 : decide (t < 0) = true := decide_eq_true d1
    clear ha
    go_enter Tryz.func13, Tryz.ntmps13
    go_wp2_with (fail)
    go_quiet (fail)
    go_wp2
    go_ret
    exact ⟨rfl, HOB.out.drewN _⟩
  · have e1 : decide (t < 0) = false := decide_eq_false d1
    by_cases d2 : x1 < 2
    · have e2 : decide (x1 < 2) = true := decide_eq_true d2
      clear ha d1
      go_enter Tryz.func13, Tryz.ntmps13
      go_wp2_with (fail)
      go_quiet (fail)
      go_wp2
      go_ret
      exact ⟨rfl, HOB.out.drewN _⟩
    · have e2 : decide (x1 < 2) = false := decide_eq_false d2
      by_cases d3 : x2 < 1
      · have e3 : decide (x2 < 1) = true := decide_eq_true d3
        clear ha d1 d2
        go_enter Tryz.func13, Tryz.ntmps13
        go_wp2_with (fail)
        go_quiet (fail)
        go_wp2
        go_ret
        exact ⟨rfl, HOB.out.drewN _⟩
      · have e3 : decide (x2 < 1) = false := decide_eq_false d3
        have d4 : pg - x1 < x2 := by omega
        have hw : IntKind.i64.wrap (pg - x1) = pg - x1 := IntWalk.i64_in _ (by omega)
        have e4 : decide (pg - x1 < x2) = true := decide_eq_true d4
        clear ha d1 d2 d3
        go_enter Tryz.func13, Tryz.ntmps13
        go_wp2_with (fail)
        go_quiet (fail)
        go_wp2
        go_ret
        exact ⟨rfl, HOB.out.drewN _⟩
end Go.Proofs.YtmadlckladohbaaGreat
