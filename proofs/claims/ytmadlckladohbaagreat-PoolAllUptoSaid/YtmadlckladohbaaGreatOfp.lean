/-
  A state, as the program has it: the law's Of.
-/
import Derived.Test.YtmadlckladohbaaGreatPnw
set_option linter.unusedVariables false
namespace Go.Proofs.YtmadlckladohbaaGreat
open Go.RowKit Go.Shelf

theorem own_kept {w w' : World} {B n : Nat} {v : Value} {l : List R} (h : OwnN w B v n l) {row : Option Nat} (hg : w.grownBy w' row) (hne : v.ownBlock = none ∨ v.ownBlock ≠ row) : OwnN w' B v n l := ⟨h.1, World.ownsRow.kept h.2 hg hne⟩
theorem own_set_far {w : World} {B n : Nat} {v : Value} {l : List R} {p : Addr} (h : OwnN w B v n l) (hp : p.block < B) (u : Value) : OwnN (w.setCell p u) B v n l :=
  own_kept h (row := some p.block) ⟨rfl, rfl, rfl, by simp [World.setCell], fun k _ hk => Below.heap_setCell w p u k (fun e => hk (by rw [e]))⟩ (.inr fun e => by have := (World.ownsRow.lt h.2 _ e).1; omega)
theorem OwnN.alloc {w : World} {B n : Nat} {v : Value} {l : List R} (h : OwnN w B v n l) (o : Obj) : OwnN (w.alloc o) B v n l := ⟨h.1, World.ownsRow.alloc h.2 o⟩
theorem own_two {w : World} {B n : Nat} {v u : Value} {l : List R} (ha : ∀ g, u.ownBlock = some g → g < B) (h : OwnN w B v n l) : u.ownBlock = none ∨ u.ownBlock ≠ v.ownBlock := by
  cases hu : u.ownBlock with
  | none => exact .inl rfl
  | some g =>
    refine .inr fun e => ?_
    have := (World.ownsRow.lt h.2 g e.symm).1
    have := ha g hu
    omega
theorem own_off_some {w : World} {B n g : Nat} {v : Value} {l : List R} (h : OwnN w B v n l) (hg : g < B) : v.ownBlock ≠ some g := fun e => by
  have := (World.ownsRow.lt h.2 g e).1
  omega
/-- A state came back. -/
def OfSt (w : World) (a b : List R) (e : Ending) (w' : World) : Prop := ∃ A n c B m d, e = .returned (.agg #[.slice A n c, .slice B m d]) ∧ Row w' (.slice A n c) a ∧ Row w' (.slice B m d) b ∧ Only (w.heap.size ≤ ·) w w'

set_option maxRecDepth 100000 in
set_option maxHeartbeats 6400000 in
theorem pOf_c (w : World) (A B : Option Addr) (nn cc mm dd : Nat) (a b : List R) (ha : Row w (.slice A nn cc) a) (hb : Row w (.slice B mm dd) b) (hla : a.length ≤ 2000000) (hlb : b.length ≤ 2000000) :
    Calls Tryz.prog 7 #[.agg #[.slice A nn cc, .slice B mm dd]] w (OfSt w a b) := by
  obtain ⟨i0, hi0, hz0, hz1, hz2⟩ := info_parts infoRun
  have HI := Lib.hid (And.intro hi0 (And.intro hz0 (And.intro hz1 hz2)))
  obtain ⟨A', c', e, hsa, _, _, _⟩ := ha
  simp only [Value.slice.injEq] at e
  obtain ⟨rfl, hna, rfl⟩ := e
  obtain ⟨B', d', e, hsb, _, _, _⟩ := hb
  simp only [Value.slice.injEq] at e
  obtain ⟨rfl, hnb, rfl⟩ := e
  have HSA := Lib.hid hsa
  have HSB := Lib.hid hsb
  have HLA : Hid (a.length = nn) := Lib.hid hna.symm
  have HLB : Hid (b.length = mm) := Lib.hid hnb.symm
  have hnn : nn ≤ 2000000 := by omega
  have hmm : mm ≤ 2000000 := by omega
  clear hsa hsb hna hnb hla hlb hi0 hz0 hz1 hz2
  have HO0 : Hid (Only (w.heap.size ≤ ·) w (((w.alloc (.cells #[.slice A nn cc, .slice B mm dd] 24)).alloc (.cells #[.slice none 0 0, .slice none 0 0] 35)).alloc (.cells #[.slice none 0 0, .slice none 0 0] 35))) := Lib.hid ((((Only.refl _ w).alloc (fun _ h => h) _).alloc (fun _ h => h) _).alloc (fun _ h => h) _)
  have HB10 : Hid (Blk (((w.alloc (.cells #[.slice A nn cc, .slice B mm dd] 24)).alloc (.cells #[.slice none 0 0, .slice none 0 0] 35)).alloc (.cells #[.slice none 0 0, .slice none 0 0] 35)) w.heap.size 24 [.slice A nn cc, .slice B mm dd]) := Lib.hid (((Blk.new w _ [.slice A nn cc, .slice B mm dd]).alloc _).alloc _)
  have HB20 : Hid (Blk (((w.alloc (.cells #[.slice A nn cc, .slice B mm dd] 24)).alloc (.cells #[.slice none 0 0, .slice none 0 0] 35)).alloc (.cells #[.slice none 0 0, .slice none 0 0] 35)) (w.heap.size + 1) 35 [.slice none 0 0, .slice none 0 0]) := Lib.hid (by
    have := (Blk.new (w.alloc (.cells #[.slice A nn cc, .slice B mm dd] 24)) 35 [.slice none 0 0, .slice none 0 0]).alloc (.cells #[.slice none 0 0, .slice none 0 0] 35)
    rwa [show (w.alloc (.cells #[.slice A nn cc, .slice B mm dd] 24)).heap.size = w.heap.size + 1 by simp] at this)
  have HB30 : Hid (Blk (((w.alloc (.cells #[.slice A nn cc, .slice B mm dd] 24)).alloc (.cells #[.slice none 0 0, .slice none 0 0] 35)).alloc (.cells #[.slice none 0 0, .slice none 0 0] 35)) (w.heap.size + 2) 35 [.slice none 0 0, .slice none 0 0]) := Lib.hid (by
    have := Blk.new ((w.alloc (.cells #[.slice A nn cc, .slice B mm dd] 24)).alloc (.cells #[.slice none 0 0, .slice none 0 0] 35)) 35 [.slice none 0 0, .slice none 0 0]
    rwa [show ((w.alloc (.cells #[.slice A nn cc, .slice B mm dd] 24)).alloc (.cells #[.slice none 0 0, .slice none 0 0] 35)).heap.size = w.heap.size + 2 by simp] at this)
  obtain ⟨q0, q1⟩ := box_two HB10.out
  go_enter Tryz.func7, Tryz.ntmps7
  go_wp2
  go_loopw [11] (fun i wr => ∃ (k : Nat) (Av : Option Addr) (cv : Nat), k ≤ nn ∧ i = .int .i64 k ∧ Hid (Blk wr w.heap.size 24 [.slice A nn cc, .slice B mm dd]) ∧ Hid (Blk wr (w.heap.size + 1) 35 [.slice none 0 0, .slice none 0 0]) ∧ Hid (Blk wr (w.heap.size + 2) 35 [.slice Av k cv, .slice none 0 0]) ∧ Hid (OwnN wr (w.heap.size + 3) (.slice Av k cv) k (a.take k)) ∧ Hid (Only (w.heap.size ≤ ·) w wr)) (fun i _ => nn - (intOf i).toNat)
  case atStart => exact ⟨0, none, 0, Nat.zero_le _, rfl, HB10, HB20, HB30, Lib.hid ⟨rfl, World.ownsRow_nil _ _ _ _⟩, HO0⟩
  case round =>
    obtain ⟨k, Av, cv, hk, rfl, HB1, HB2, HB3, HW, HO⟩ := hrel
    by_cases hlt : k < nn
    · obtain ⟨g, off, x, rfl, hg, hx, hc1, hc2⟩ := (HSA.out.later HO.out).at_ (k := k) (by rw [HLA.out]; exact hlt)
      have HX := Lib.hid (rc_snoc a k x hx)
      have HTL : Hid ((a.take k).length = k ∧ (a.take (k + 1)).length = k + 1) := Lib.hid ⟨by rw [List.length_take, HLA.out]; omega, by rw [List.length_take, HLA.out]; omega⟩
      obtain ⟨x1, x2⟩ := x
      simp only at hc1 hc2
      clear hx
      have HX1 : Hid (Only (w.heap.size ≤ ·) w ((wr.alloc (.cells #[.int .i64 x1, .int .i64 x2] 44)).alloc (.cells #[.int .i64 x1, .int .i64 x2] 54))) := Lib.hid ((HO.out.alloc (fun _ h => h) _).alloc (fun _ h => h) _)
      have HXW := Lib.hid ((HW.out.alloc (.cells #[.int .i64 x1, .int .i64 x2] 44)).alloc (.cells #[.int .i64 x1, .int .i64 x2] 54))
      have HX3 := Lib.hid ((HB3.out.alloc (.cells #[.int .i64 x1, .int .i64 x2] 44)).alloc (.cells #[.int .i64 x1, .int .i64 x2] 54))
      have HX2 := Lib.hid ((HB2.out.alloc (.cells #[.int .i64 x1, .int .i64 x2] 44)).alloc (.cells #[.int .i64 x1, .int .i64 x2] 54))
      have HX0 := Lib.hid ((HB1.out.alloc (.cells #[.int .i64 x1, .int .i64 x2] 44)).alloc (.cells #[.int .i64 x1, .int .i64 x2] 54))
      have b0 := (HB3.out.alloc (.cells #[.int .i64 x1, .int .i64 x2] 44)).cell 0
      simp only [List.getElem?_cons_zero, List.getElem?_cons_succ] at b0
      have HB : Hid (Blk ((wr.alloc (.cells #[.int .i64 x1, .int .i64 x2] 44)).alloc (.cells #[.int .i64 x1, .int .i64 x2] 54)) (wr.heap.size + 1) 54 [.int .i64 x1, .int .i64 x2]) := by
        have := Blk.new (wr.alloc (.cells #[.int .i64 x1, .int .i64 x2] 44)) 54 [.int .i64 x1, .int .i64 x2]
        exact Lib.hid (by simpa using this)
      go_wp2_with (at_builtin; refine wpList_append_own _ rfl (.tmp 16) (.tmp 18) 33 rfl (w.heap.size + 3) 54 i0 z2 2 16 Tryz.underlying33 HI.out.1 HI.out.2.1 HI.out.2.2.1 HI.out.2.2.2 (by rfl) (by omega) _ k (rc (a.take k)) rfl HXW.out.2 ⟨wr.heap.size + 1, 0, none⟩ 1 1 (rc [(x1, x2)]) rfl rfl (fun j u hu => by rw [Addr.add_lit, HB.out.cell, Nat.zero_add]; exact hu) (rc_one _) (by simp only [maxLen]; omega) (by omega) (by have := HO.out.size; have := HB3.out.lt; simp; omega) ?_; intro v' w' ho' hg' _; obtain ⟨g', cap', rfl⟩ := Joins.ownsRow_form ho' (by omega); have HW' := Lib.hid ho'; have hb3 := HX3.out.grown hg' (own_off_some HXW.out (Nat.lt_succ_self _)); have HY3 := Lib.hid hb3; have HY2 := Lib.hid (HX2.out.grown hg' (own_off_some HXW.out (by omega))); have HY1 := Lib.hid (HX0.out.grown hg' (own_off_some HXW.out (by omega))); have p0 := hb3.cell 0; simp only [List.getElem?_cons_zero, List.getElem?_cons_succ] at p0; have f0 := hb3.frozen 0; have HO' := Lib.hid (HX1.out.grown hg' (fun _ h => h) (fun g hg => Nat.le_trans (by omega) (World.ownsRow.lt HXW.out.2 g hg).1)); clear ho' hg' hb3)
      go_roundw
      case rel =>
        refine ⟨k + 1, _, _, by omega, by go_num, Lib.hid (HY1.out.far (p := ⟨w.heap.size + 2, 0, none⟩) (by show w.heap.size ≠ w.heap.size + 2; omega) _), Lib.hid (HY2.out.far (p := ⟨w.heap.size + 2, 0, none⟩) (by show w.heap.size + 1 ≠ w.heap.size + 2; omega) _), Lib.hid (HY3.out.set_ 0 _), Lib.hid (own_set_far (p := ⟨w.heap.size + 2, 0, none⟩) ⟨HTL.out.2.symm, by rw [HX.out]; exact HW'.out⟩ (Nat.lt_succ_self _) _), Lib.hid (HO'.out.setCell (p := ⟨w.heap.size + 2, 0, none⟩) (by show w.heap.size ≤ w.heap.size + 2; omega) _)⟩
      case measure => simp [intOf]; omega
    · obtain rfl : nn = k := by omega
      have hkm : ¬ (nn : Int) < (nn : Int) := by omega
      have HT : Hid (a.take nn = a) := Lib.hid (List.take_of_length_le (by rw [HLA.out]; exact Nat.le_refl _))
      rw [HT.out] at HW
      obtain ⟨q2, q3⟩ := box_two HB1.out
      obtain ⟨b2, hb2⟩ : ∃ b2, b2 = wr.heap.size := ⟨_, rfl⟩
      have HAB : Hid (∀ g, (Value.slice Av nn cv).ownBlock = some g → g < b2) := Lib.hid fun g e => by rw [hb2]; exact (World.ownsRow.lt HW.out.2 g e).2
      have HBB : Hid (w.heap.size + 3 ≤ b2 ∧ b2 ≤ wr.heap.size) := Lib.hid ⟨by rw [hb2]; exact HB3.out.lt, Nat.le_of_eq hb2⟩
      clear hb2
      have HB11 := HB1
      have HB21 := HB2
      have HB31 := HB3
      have HOA1 := HW
      have HO1 := HO
      have HWS := Lib.hid (Only.size HO.out)
      clear HB1 HB2 HB3 HW HO hkm hlt hk q0 q1
      go_wp2
      go_loopw [25] (fun i wr => ∃ (k : Nat) (Au : Option Addr) (cu : Nat), k ≤ mm ∧ i = .int .i64 k ∧ Hid (Blk wr w.heap.size 24 [.slice A nn cc, .slice B mm dd]) ∧ Hid (Blk wr (w.heap.size + 1) 35 [.slice none 0 0, .slice none 0 0]) ∧ Hid (Blk wr (w.heap.size + 2) 35 [.slice Av nn cv, .slice Au k cu]) ∧ Hid (OwnN wr b2 (.slice Au k cu) k (b.take k)) ∧ Hid (OwnN wr (w.heap.size + 3) (.slice Av nn cv) nn a) ∧ Hid (b2 ≤ wr.heap.size) ∧ Hid (Only (w.heap.size ≤ ·) w wr)) (fun i _ => mm - (intOf i).toNat)
      case atStart => exact ⟨0, none, 0, Nat.zero_le _, rfl, HB11, HB21, HB31, Lib.hid ⟨rfl, World.ownsRow_nil _ _ _ _⟩, HOA1, Lib.hid HBB.out.2, HO1⟩
      case round =>
        obtain ⟨k, Au, cu, hk, rfl, HB1, HB2, HB3, HW, HOA, HBN, HO⟩ := hrel
        by_cases hlt : k < mm
        · obtain ⟨g, off, x, rfl, hg, hx, hc1, hc2⟩ := (HSB.out.later HO.out).at_ (k := k) (by rw [HLB.out]; exact hlt)
          have HX := Lib.hid (rc_snoc b k x hx)
          have HTL : Hid ((b.take k).length = k ∧ (b.take (k + 1)).length = k + 1) := Lib.hid ⟨by rw [List.length_take, HLB.out]; omega, by rw [List.length_take, HLB.out]; omega⟩
          obtain ⟨x1, x2⟩ := x
          simp only at hc1 hc2
          clear hx
          have HX1 : Hid (Only (w.heap.size ≤ ·) w ((wr.alloc (.cells #[.int .i64 x1, .int .i64 x2] 44)).alloc (.cells #[.int .i64 x1, .int .i64 x2] 54))) := Lib.hid ((HO.out.alloc (fun _ h => h) _).alloc (fun _ h => h) _)
          have HXW := Lib.hid ((HW.out.alloc (.cells #[.int .i64 x1, .int .i64 x2] 44)).alloc (.cells #[.int .i64 x1, .int .i64 x2] 54))
          have HX3 := Lib.hid ((HB3.out.alloc (.cells #[.int .i64 x1, .int .i64 x2] 44)).alloc (.cells #[.int .i64 x1, .int .i64 x2] 54))
          have HX2 := Lib.hid ((HB2.out.alloc (.cells #[.int .i64 x1, .int .i64 x2] 44)).alloc (.cells #[.int .i64 x1, .int .i64 x2] 54))
          have HX0 := Lib.hid ((HB1.out.alloc (.cells #[.int .i64 x1, .int .i64 x2] 44)).alloc (.cells #[.int .i64 x1, .int .i64 x2] 54))
          have b0 := (HB3.out.alloc (.cells #[.int .i64 x1, .int .i64 x2] 44)).cell 1
          simp only [List.getElem?_cons_zero, List.getElem?_cons_succ] at b0
          have HB : Hid (Blk ((wr.alloc (.cells #[.int .i64 x1, .int .i64 x2] 44)).alloc (.cells #[.int .i64 x1, .int .i64 x2] 54)) (wr.heap.size + 1) 54 [.int .i64 x1, .int .i64 x2]) := by
            have := Blk.new (wr.alloc (.cells #[.int .i64 x1, .int .i64 x2] 44)) 54 [.int .i64 x1, .int .i64 x2]
            exact Lib.hid (by simpa using this)
          have HXA := Lib.hid ((HOA.out.alloc (.cells #[.int .i64 x1, .int .i64 x2] 44)).alloc (.cells #[.int .i64 x1, .int .i64 x2] 54))
          go_wp2_with (at_builtin; refine wpList_append_own _ rfl (.tmp 30) (.tmp 32) 33 rfl b2 54 i0 z2 2 16 Tryz.underlying33 HI.out.1 HI.out.2.1 HI.out.2.2.1 HI.out.2.2.2 (by rfl) (by omega) _ k (rc (b.take k)) rfl HXW.out.2 ⟨wr.heap.size + 1, 0, none⟩ 1 1 (rc [(x1, x2)]) rfl rfl (fun j u hu => by rw [Addr.add_lit, HB.out.cell, Nat.zero_add]; exact hu) (rc_one _) (by simp only [maxLen]; omega) (by omega) (by have := HBN.out; simp; omega) ?_; intro v' w' ho' hg' _; obtain ⟨g', cap', rfl⟩ := Joins.ownsRow_form ho' (by omega); have HW' := Lib.hid ho'; have hb3 := HX3.out.grown hg' (own_off_some HXW.out (by have := HBB.out; show w.heap.size + 2 < b2; omega)); have HY3 := Lib.hid hb3; have HY2 := Lib.hid (HX2.out.grown hg' (own_off_some HXW.out (by have := HBB.out; omega))); have HY1 := Lib.hid (HX0.out.grown hg' (own_off_some HXW.out (by have := HBB.out; omega))); have HA2 := Lib.hid (own_kept HXA.out hg' (own_two HAB.out HXW.out)); have p0 := hb3.cell 1; simp only [List.getElem?_cons_zero, List.getElem?_cons_succ] at p0; have f0 := hb3.frozen 1; have HBS : Hid (b2 ≤ w'.heap.size) := Lib.hid (Nat.le_trans (by have := HBN.out; simp; omega) hg'.size); have HO' := Lib.hid (HX1.out.grown hg' (fun _ h => h) (fun g hg => Nat.le_trans (by have := HBB.out; omega) (World.ownsRow.lt HXW.out.2 g hg).1)); clear ho' hg' hb3)
          go_roundw
          case rel =>
            refine ⟨k + 1, _, _, by omega, by go_num, Lib.hid (HY1.out.far (p := ⟨w.heap.size + 2, 1, none⟩) (by show w.heap.size ≠ w.heap.size + 2; omega) _), Lib.hid (HY2.out.far (p := ⟨w.heap.size + 2, 1, none⟩) (by show w.heap.size + 1 ≠ w.heap.size + 2; omega) _), Lib.hid (HY3.out.set_ 1 _), Lib.hid (own_set_far (p := ⟨w.heap.size + 2, 1, none⟩) ⟨HTL.out.2.symm, by rw [HX.out]; exact HW'.out⟩ (by have := HBB.out; show w.heap.size + 2 < b2; omega) _), Lib.hid (own_set_far (p := ⟨w.heap.size + 2, 1, none⟩) HA2.out (Nat.lt_succ_self _) _), Lib.hid (by have := HBS.out; simp [World.setCell]; omega), Lib.hid (HO'.out.setCell (p := ⟨w.heap.size + 2, 1, none⟩) (by show w.heap.size ≤ w.heap.size + 2; omega) _)⟩
          case measure => simp [intOf]; omega
        · obtain rfl : mm = k := by omega
          have hkm : ¬ (mm : Int) < (mm : Int) := by omega
          have HT : Hid (b.take mm = b) := Lib.hid (List.take_of_length_le (by rw [HLB.out]; exact Nat.le_refl _))
          rw [HT.out] at HW
          clear q2 q3
          obtain ⟨p0, p1⟩ := box_two HB3.out
          obtain ⟨s0, s1⟩ := box_two HB2.out
          have g0 := HB2.out.frozen 0
          have g1 := HB2.out.frozen 1
          go_wp2
          have HBF : Blk ((wr.setCell ⟨w.heap.size + 1, 0, none⟩ (.slice Av nn cv)).setCell ⟨w.heap.size + 1, 1, none⟩ (.slice Au mm cu)) (w.heap.size + 1) 35 [.slice Av nn cv, .slice Au mm cu] := (HB2.out.set_ 0 (.slice Av nn cv)).set_ 1 (.slice Au mm cu)
          have hO4 : Only (fun k => k = w.heap.size + 1) wr ((wr.setCell ⟨w.heap.size + 1, 0, none⟩ (.slice Av nn cv)).setCell ⟨w.heap.size + 1, 1, none⟩ (.slice Au mm cu)) := ((Only.refl (fun k => k = w.heap.size + 1) wr).setCell (p := ⟨w.heap.size + 1, 0, none⟩) rfl _).setCell (p := ⟨w.heap.size + 1, 1, none⟩) rfl _
          exact bodyPost_ret (v := .agg #[.slice Av nn cv, .slice Au mm cu]) (results_cell rfl rfl (load_state HBF)) rfl ⟨Av, nn, cv, Au, mm, cu, rfl, HOA.out.row.past hO4 (fun k hk => .inr (.inl (own_off HOA.out (by omega)))), HW.out.row.past hO4 (fun k hk => .inr (.inl (own_off HW.out (by have := HBB.out; omega)))), HO.out.trans (Only.mono hO4 fun k hk => by rw [hk]; exact Nat.le_succ _)⟩
end Go.Proofs.YtmadlckladohbaaGreat
