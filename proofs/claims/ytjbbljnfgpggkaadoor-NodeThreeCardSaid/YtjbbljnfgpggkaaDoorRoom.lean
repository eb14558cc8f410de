/-
  Room of the program.
-/
import Derived.Test.YtjbbljnfgpggkaaDoorRigt
set_option linter.unusedVariables false
namespace Go.Proofs.YtjbbljnfgpggkaaDoor
open Go.RowKit

section
variable {P : Program} {ops : Array Oper} {Q : Exit → Act → World → Prop} {md : Region.Mode} {S : World → Prop}
/-- An operation that is wanted and reads alone, taken next; its slot is named. -/
theorem take_one {i d : Nat} {oi : Oper} {v : Value} {fuel : Nat} {listed : Array Bool} {a : Act} {w : World} (hi : ops[i]? = some oi)
    (hs : Region.noSelect ops = true) (hf : Region.free md ops listed i = true) (hr : (Region.ready md ops listed).contains i = true)
    (hQ : ∀ c a w, Q (.panic c) (a.put (some d) v) w → Q (.panic c) a w) (hd : oi.dst = some d) (hw : Region.wanted oi (yielded ops a.tmps) = true) (hy : ∀ w, S w → (execOp a.eval oi).run P w = .ok (.value v) w) (hS : S w)
    (h : wpAnyH P md ops Q S fuel (listed.setIfInBounds i true) (a.put (some d) v) w) : wpAnyH P md ops Q S (fuel + 1) listed a w :=
  wpAnyH_take hi hs hf hr (by rw [hd]; exact hQ) (.inl ⟨hw, hy⟩) hS (by rw [hd]; exact h)
/-- One that is not wanted. -/
theorem take_skip {i d : Nat} {oi : Oper} {fuel : Nat} {listed : Array Bool} {a : Act} {w : World} (hi : ops[i]? = some oi)
    (hs : Region.noSelect ops = true) (hf : Region.free md ops listed i = true) (hr : (Region.ready md ops listed).contains i = true)
    (hQ : ∀ c a w, Q (.panic c) (a.put (some d) undef) w → Q (.panic c) a w) (hd : oi.dst = some d) (hw : Region.wanted oi (yielded ops a.tmps) = false) (hS : S w)
    (h : wpAnyH P md ops Q S fuel (listed.setIfInBounds i true) (a.put (some d) undef) w) : wpAnyH P md ops Q S (fuel + 1) listed a w :=
  wpAnyH_take hi hs hf hr (by rw [hd]; exact hQ) (.inr ⟨hw, rfl⟩) hS (by rw [hd]; exact h)
end

theorem id_range (g : Int) : 0 ≤ tr g 4 8 8 ∧ tr g 4 8 8 ≤ 8 := by
  unfold tr
  split
  · omega
  · split
    · omega
    · split <;> omega

section
variable (w : World) (A B : Option Addr) (n c m d : Nat) (s r g : Int)
set_option maxRecDepth 100000 in
set_option maxHeartbeats 6400000 in
theorem Room_c (hg : Gens w) (hn : n ≤ 1000000) (hm : m ≤ 1000000) : Calls Tryd.prog 74 #[.int .i64 g, .agg #[.slice A n c, .slice B m d, .int .i64 s, .int .i64 r]] w (Told w (.int .i64 (room g n m r))) := by
  have HI : Hid (Blk (w.alloc (.cells #[.slice A n c, .slice B m d, .int .i64 s, .int .i64 r] 56)) w.heap.size 56 [.slice A n c, .slice B m d, .int .i64 s, .int .i64 r]) := Blk.new w 56 [.slice A n c, .slice B m d, .int .i64 s, .int .i64 r]
  have HO : Hid (Only (w.heap.size ≤ ·) w (w.alloc (.cells #[.slice A n c, .slice B m d, .int .i64 s, .int .i64 r] 56))) := (Only.refl _ w).alloc (fun _ h => h) _
  have HG : Hid (Gens (w.alloc (.cells #[.slice A n c, .slice B m d, .int .i64 s, .int .i64 r] 56))) := hg.later HO.out
  obtain ⟨a, ha⟩ : ∃ a, gen g = a := ⟨_, rfl⟩
  obtain ⟨b, hb⟩ : ∃ b, far m r = b := ⟨_, rfl⟩
  obtain ⟨i, hi⟩ : ∃ i, i = tr g 4 8 8 := ⟨_, rfl⟩
  have HA := Lib.hid ha
  have HB := Lib.hid hb
  have HW : Hid (∀ W, Gens W → Calls Tryd.prog 82 #[.int .i64 g] W (Told W (.int .i64 i))) := fun W hW => by rw [hi]; exact IdWidth_c W g hW
  have hi8 := id_range g
  rw [← hi] at hi8
  have HK : Hid (room g n m r = if a = true then 4 + n + (if b = true then i else (m : Int)) else 0) := by show _ = _; unfold room; rw [ha, hb, hi]
  rw [HK.out]
  clear ha hb hi hg HK
  cases a
  · skip
    go_enter Tryd.func74, Tryd.ntmps74
    go_wp2_with (first
      | (go_at_call 56; (with_reducible refine (Gen_c _ g).mono ?_); rintro e w' ⟨rfl, rfl⟩; rw [HA.out]))
    go_ret
    exact ⟨rfl, HO.out⟩
  cases b
  · skip
    go_enter Tryd.func74, Tryd.ntmps74
    go_wp2_with (first
      | (go_at_call 56; (with_reducible refine (Gen_c _ g).mono ?_); rintro e w' ⟨rfl, rfl⟩; rw [HA.out])
      | (go_at_call 81; (with_reducible refine (Far_c _ _ _ _ _ _ _ _ _ _ HB.out).mono ?_); rintro e w1 ⟨rfl, ho⟩; (replace HG := Lib.hid (HG.out.later ho)); (replace HI := Lib.hid (HI.out.later ho)); (obtain ⟨hi0, hi1, hi2, hi3⟩ := HI.out.four); (replace HO := Lib.hid (on_new HO.out ho)); clear ho))
    go_ret
    exact ⟨rfl, HO.out⟩
  go_enter Tryd.func74, Tryd.ntmps74
  go_wp2_with (first
    | (go_at_call 56; (with_reducible refine (Gen_c _ g).mono ?_); rintro e w' ⟨rfl, rfl⟩; rw [HA.out])
    | (go_at_call 81; (with_reducible refine (Far_c _ _ _ _ _ _ _ _ _ _ HB.out).mono ?_); rintro e w1 ⟨rfl, ho⟩; (replace HG := Lib.hid (HG.out.later ho)); (replace HI := Lib.hid (HI.out.later ho)); (obtain ⟨hi0, hi1, hi2, hi3⟩ := HI.out.four); (replace HO := Lib.hid (on_new HO.out ho)); clear ho))
  obtain ⟨bx, hbx⟩ : ∃ bx, bx = w.heap.size := ⟨_, rfl⟩
  rw [← hbx] at HI ⊢
  clear hi0 hi1 hi2 hi3 hbx
  have HKEEP : Hid (∀ W : World, Only (w1.heap.size ≤ ·) w1 W → W.cell? ⟨bx, 0, none⟩ = some (.slice A n c)) := fun W hW => (HI.out.later hW).cell 0
  have hO1 : Only (w1.heap.size ≤ ·) w1 w1.drew := (Only.refl _ w1).drew
  replace HG := Lib.hid (HG.out.later hO1)
  refine wp_region_held_drew (S := (fun w' => w'.cell? ⟨bx, 0, none⟩ = some (.slice A n c))) (by kernel_rfl) (HKEEP.out _ hO1) (fun hHeld => ?_)
  refine take_one (i := 0) (d := 12) (oi := ?_) (v := ?_) ?_ (by kernel_rfl) (by kernel_rfl) (by kernel_rfl) (fun _ _ _ h => h) ?_ ?_ ?_ (by assumption) ?_
  case refine_3 => (simp only [List.getElem?_toArray, List.getElem?_cons_zero]; rfl)
  case refine_4 => rfl
  case refine_5 => rfl
  case refine_6 => (intro w' hSw; (try dsimp only at hSw); go_simp; (try with_reducible rfl))
  simp only [Act.put, List.setIfInBounds_toArray, List.set_cons_zero, List.set_cons_succ]
  refine take_one (i := 1) (d := 13) (oi := ?_) (v := ?_) ?_ (by kernel_rfl) (by kernel_rfl) (by kernel_rfl) (fun _ _ _ h => h) ?_ ?_ ?_ (by assumption) ?_
  case refine_3 => (simp only [List.getElem?_toArray, List.getElem?_cons_succ, List.getElem?_cons_zero]; rfl)
  case refine_4 => rfl
  case refine_5 => rfl
  case refine_6 => (intro w' hSw; (try dsimp only at hSw); go_simp; (try with_reducible rfl))
  simp only [Act.put, List.setIfInBounds_toArray, List.set_cons_zero, List.set_cons_succ]
  refine take_one (i := 2) (d := 14) (oi := ?_) (v := ?_) ?_ (by kernel_rfl) (by kernel_rfl) (by kernel_rfl) (fun _ _ _ h => h) ?_ ?_ ?_ (by assumption) ?_
  case refine_3 => (simp only [List.getElem?_toArray, List.getElem?_cons_succ, List.getElem?_cons_zero]; rfl)
  case refine_4 => rfl
  case refine_5 => rfl
  case refine_6 => (intro w' hSw; (try dsimp only at hSw); go_simp; (try with_reducible rfl))
  simp only [Act.put, List.setIfInBounds_toArray, List.set_cons_zero, List.set_cons_succ]
  refine take_one (i := 3) (d := 15) (oi := ?_) (v := ?_) ?_ (by kernel_rfl) (by kernel_rfl) (by kernel_rfl) (fun _ _ _ h => h) ?_ ?_ ?_ (by assumption) ?_
  case refine_3 => (simp only [List.getElem?_toArray, List.getElem?_cons_succ, List.getElem?_cons_zero]; rfl)
  case refine_4 => rfl
  case refine_5 => rfl
  case refine_6 => (intro w' hSw; (try dsimp only at hSw); go_simp; (try with_reducible rfl))
  simp only [Act.put, List.setIfInBounds_toArray, List.set_cons_zero, List.set_cons_succ]
  refine take_one (i := 4) (d := 16) (oi := ?_) (v := ?_) ?_ (by kernel_rfl) (by kernel_rfl) (by kernel_rfl) (fun _ _ _ h => h) ?_ ?_ ?_ (by assumption) ?_
  case refine_3 => (simp only [List.getElem?_toArray, List.getElem?_cons_succ, List.getElem?_cons_zero]; rfl)
  case refine_4 => rfl
  case refine_5 => rfl
  case refine_6 => (intro w' hSw; (try dsimp only at hSw); go_simp; (try with_reducible rfl))
  simp only [Act.put, List.setIfInBounds_toArray, List.set_cons_zero, List.set_cons_succ]
  refine wpAnyH_ready (rs := [5]) (by kernel_rfl) (by simp) ?_
  refine AllReadyH.cons (o := ?_) ?_ (fun K hK => ?_) AllReadyH.nil
  case refine_2 => (simp only [List.getElem?_toArray, List.getElem?_cons_succ, List.getElem?_cons_zero]; rfl)
  go_simp
  (go_at_call 82; (with_reducible refine (HW.out _ HG.out).mono ?_); rintro e w2 ⟨rfl, ho⟩; have hO2 : Only (w1.heap.size ≤ ·) w1 w2 := hO1.trans (ho.mono fun k h => Nat.le_trans hO1.size h))
  go_wp2_with (fail)
  refine hK.out _ _ (HKEEP.out _ hO2) (fun hHeld => ?_)
  clear hK K
  try simp only [Act.put, List.setIfInBounds_toArray, List.set_cons_zero, List.set_cons_succ]
  refine take_one (i := 6) (d := 18) (oi := ?_) (v := ?_) ?_ (by kernel_rfl) (by kernel_rfl) (by kernel_rfl) (fun _ _ _ h => h) ?_ ?_ ?_ (by assumption) ?_
  case refine_3 => (simp only [List.getElem?_toArray, List.getElem?_cons_succ, List.getElem?_cons_zero]; rfl)
  case refine_4 => rfl
  case refine_5 => rfl
  case refine_6 => (intro w' hSw; (try dsimp only at hSw); go_simp; (try with_reducible rfl))
  simp only [Act.put, List.setIfInBounds_toArray, List.set_cons_zero, List.set_cons_succ]
  refine take_one (i := 7) (d := 4) (oi := ?_) (v := ?_) ?_ (by kernel_rfl) (by kernel_rfl) (by kernel_rfl) (fun _ _ _ h => h) ?_ ?_ ?_ (by assumption) ?_
  case refine_3 => (simp only [List.getElem?_toArray, List.getElem?_cons_succ, List.getElem?_cons_zero]; rfl)
  case refine_4 => rfl
  case refine_5 => rfl
  case refine_6 => (intro w' hSw; (try dsimp only at hSw); go_simp; (try with_reducible rfl))
  simp only [Act.put, List.setIfInBounds_toArray, List.set_cons_zero, List.set_cons_succ]
  refine wpAnyH_done (by kernel_rfl) ?_ _
  go_wp2
  go_ret
  exact ⟨congrArg (fun x => Ending.returned (.int .i64 x)) (by rw [IntWalk.i64_in (4 + (n : Int)) (by omega), IntWalk.i64_in _ (by omega)]), on_new HO.out hO2⟩
end
end Go.Proofs.YtjbbljnfgpggkaaDoor
