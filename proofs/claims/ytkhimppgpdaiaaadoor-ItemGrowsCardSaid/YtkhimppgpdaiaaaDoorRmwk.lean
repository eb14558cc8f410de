/-
  ItemRooms: the walk.
-/
import Derived.Test.YtkhimppgpdaiaaaDoorAliv
import Derived.StillTailTactics
set_option linter.unusedVariables false
namespace Go.Proofs.YtkhimppgpdaiaaaDoor
open Go.RowKit

def Both (bx bz : Nat) (A : Option Addr) (n c : Nat) (B : Option Addr) (m d : Nat) (s r : Int) (w' : World) : Prop := (w'.cell? ⟨bx, 0, none⟩ = some (.slice A n c) ∧ w'.cell? ⟨bx, 1, none⟩ = some (.slice B m d) ∧ w'.cell? ⟨bx, 2, none⟩ = some (.int .i64 s) ∧ w'.cell? ⟨bx, 3, none⟩ = some (.int .i64 r) ∧ w'.cell? ⟨bx, 0 + 1, none⟩ = some (.slice B m d) ∧ w'.cell? ⟨bx, 0 + 2, none⟩ = some (.int .i64 s) ∧ w'.cell? ⟨bx, 0 + 3, none⟩ = some (.int .i64 r)) ∧ (w'.cell? ⟨bz, 0, none⟩ = some (.slice A n c) ∧ w'.cell? ⟨bz, 1, none⟩ = some (.slice B m d) ∧ w'.cell? ⟨bz, 2, none⟩ = some (.int .i64 s) ∧ w'.cell? ⟨bz, 3, none⟩ = some (.int .i64 r) ∧ w'.cell? ⟨bz, 0 + 1, none⟩ = some (.slice B m d) ∧ w'.cell? ⟨bz, 0 + 2, none⟩ = some (.int .i64 s) ∧ w'.cell? ⟨bz, 0 + 3, none⟩ = some (.int .i64 r))
theorem both_of {w' : World} {bx bz : Nat} {t u : TypeId} {A B : Option Addr} {n c m d : Nat} {s r : Int} (h : Blk w' bx t [.slice A n c, .slice B m d, .int .i64 s, .int .i64 r]) (k : Blk w' bz u [.slice A n c, .slice B m d, .int .i64 s, .int .i64 r]) : Both bx bz A n c B m d s r w' :=
  ⟨⟨h.cell 0, h.cell 1, h.cell 2, h.cell 3, h.cell 1, h.cell 2, h.cell 3⟩, k.cell 0, k.cell 1, k.cell 2, k.cell 3, k.cell 1, k.cell 2, k.cell 3⟩

set_option maxRecDepth 100000 in
set_option maxHeartbeats 12800000 in
theorem rooms_walk (w : World) (A B : Option Addr) (n c m d : Nat) (s r g : Int) (hg : Gens w) : Calls Tryd.prog 4 #[.int .i64 g, .agg #[.slice A n c, .slice B m d, .int .i64 s, .int .i64 r]] w (Told w (.bool true)) := by
  have HI : Hid (Blk (w.alloc (.cells #[.slice A n c, .slice B m d, .int .i64 s, .int .i64 r] 27)) w.heap.size 27 [.slice A n c, .slice B m d, .int .i64 s, .int .i64 r]) := Blk.new w 27 [.slice A n c, .slice B m d, .int .i64 s, .int .i64 r]
  have HO : Hid (Only (w.heap.size ≤ ·) w (w.alloc (.cells #[.slice A n c, .slice B m d, .int .i64 s, .int .i64 r] 27))) := (Only.refl _ w).alloc (fun _ h => h) _
  have HG : Hid (Gens (w.alloc (.cells #[.slice A n c, .slice B m d, .int .i64 s, .int .i64 r] 27))) := hg.later HO.out
  clear hg
  obtain ⟨t, ht⟩ : ∃ t, short n m = t := ⟨_, rfl⟩
  have HT := Lib.hid ht
  cases t
  · clear ht
    go_enter Tryd.func4, Tryd.ntmps4
    go_wp2_with (first
      | (go_at_call 21; (with_reducible refine (few_c _ _ _ _ _ _ _ _ _ _ HT.out).mono ?_); rintro e w1 ⟨rfl, ho⟩; (replace HG := Lib.hid (HG.out.later ho)); (replace HI := Lib.hid (HI.out.later ho)); (obtain ⟨hi0, hi1, hi2, hi3⟩ := HI.out.four); (replace HO := Lib.hid (on_new HO.out ho)); clear ho)
      | (go_at_call 9; (with_reducible refine (alive_c _ HG.out).mono ?_); rintro e w2 ⟨rfl, ho⟩; (replace HG := Lib.hid (HG.out.later ho)); (replace HO := Lib.hid (on_new HO.out ho)); clear ho))
    go_ret
    exact ⟨rfl, HO.out⟩
  have hnm : n ≤ 100 ∧ m ≤ 2000 := by unfold short at ht; exact of_decide_eq_true ht
  clear ht
  have hn : n ≤ 1000000 := by omega
  have hm : m ≤ 1000000 := by omega
  obtain ⟨x, hx⟩ : ∃ x, okay g n m s r = x := ⟨_, rfl⟩
  obtain ⟨f, hf⟩ : ∃ f, far m r = f := ⟨_, rfl⟩
  obtain ⟨l, hl⟩ : ∃ l, long m s r = l := ⟨_, rfl⟩
  obtain ⟨q, hq⟩ : ∃ q, room g n m r = q := ⟨_, rfl⟩
  obtain ⟨y, hy⟩ : ∃ y, why g n m = y := ⟨_, rfl⟩
  have HR : Hid (∀ W, Gens W → Calls Tryd.prog 22 #[.int .i64 g, .agg #[.slice A n c, .slice B m d, .int .i64 s, .int .i64 r]] W (Told W (.bool x))) := fun W hW => Right_c W A B n c m d s r g x hW hx
  have RR : Hid (∀ W, Calls Tryd.prog 23 #[.int .i64 g, .agg #[.slice A n c, .slice B m d, .int .i64 s, .int .i64 r]] W (Told W (.bool x))) := fun W => rRight_c W A B n c m d s r g x hx
  have HF : Hid (∀ W, Calls Tryd.prog 24 #[.agg #[.slice A n c, .slice B m d, .int .i64 s, .int .i64 r]] W (Told W (.bool f))) := fun W => Far_c W A B n c m d s r f hf
  have RF : Hid (∀ W, Calls Tryd.prog 25 #[.agg #[.slice A n c, .slice B m d, .int .i64 s, .int .i64 r]] W (Told W (.bool f))) := fun W => rFar_c W A B n c m d s r f hf
  have HL : Hid (∀ W, Calls Tryd.prog 26 #[.agg #[.slice A n c, .slice B m d, .int .i64 s, .int .i64 r]] W (Told W (.int .i64 l))) := fun W => Long_c W A B n c m d s r l hl
  have RL : Hid (∀ W, Calls Tryd.prog 27 #[.agg #[.slice A n c, .slice B m d, .int .i64 s, .int .i64 r]] W (Told W (.int .i64 l))) := fun W => rLong_c W A B n c m d s r l hl
  have HM : Hid (∀ W, Gens W → Calls Tryd.prog 28 #[.int .i64 g, .agg #[.slice A n c, .slice B m d, .int .i64 s, .int .i64 r]] W (Told W (.int .i64 q))) := fun W hW => by rw [← hq]; exact Room_c W A B n c m d s r g hW hn hm
  have RM : Hid (∀ W, Calls Tryd.prog 29 #[.int .i64 g, .agg #[.slice A n c, .slice B m d, .int .i64 s, .int .i64 r]] W (Told W (.int .i64 q))) := fun W => by rw [← hq]; exact rRoom_c W A B n c m d s r g hn hm
  have HY : Hid (∀ W, Gens W → Calls Tryd.prog 31 #[.int .i64 g, .slice A n c, .slice B m d] W (Told W (.int .i64 y))) := fun W hW => Why_c W A B n c m d g y hW hy
  have RY : Hid (∀ W, Calls Tryd.prog 32 #[.int .i64 g, .slice A n c, .slice B m d] W (Told W (.int .i64 y))) := fun W => rWhy_c W A B n c m d g y hy
  obtain ⟨z, hz⟩ : ∃ z, kid g n = z := ⟨_, rfl⟩
  have HZ : Hid (∀ W, Gens W → Calls Tryd.prog 30 #[.int .i64 g, .slice A n c] W (Told W (.int .i64 z))) := fun W hW => by rw [← hz]; exact KidRoom_c W A n c g hW hn
  obtain ⟨i, hi⟩ : ∃ i, i = tr g 4 8 8 := ⟨_, rfl⟩
  have HW : Hid (∀ W, Calls Tryd.prog 16 #[.int .i64 g] W fun e w' => e = .returned (.int .i64 i) ∧ w' = W) := fun W => by rw [hi]; exact (rIdWidth_c W g).mono fun e w' h => ⟨h.1, h.2.symm⟩
  have hi8 := id_range g
  rw [← hi] at hi8
  have hz' : z = if gen g = true then 1 + (n : Int) + i else 0 := by rw [← hz, hi]; rfl
  clear hx hf hl hq hy hz hi
  by_cases g1 : 1 ≤ g
  · by_cases g3 : g ≤ 3
    · have HZ' : Hid (z = 1 + (n : Int) + i) := by show _ = _; rw [hz', (gen_iff g).2 (by omega), if_pos rfl]
      have a1 : IntKind.i64.wrap (1 + (n : Int)) = 1 + n := IntWalk.i64_in _ (by omega)
      have a2 : IntKind.i64.wrap (1 + (n : Int) + i) = 1 + n + i := IntWalk.i64_in _ (by omega)
      rw [HZ'.out] at HZ
      clear hz' HZ'
      go_enter Tryd.func4, Tryd.ntmps4
      go_wp2_with (first
        | (go_at_call 21; (with_reducible refine (few_c _ _ _ _ _ _ _ _ _ _ HT.out).mono ?_); rintro e w1 ⟨rfl, ho⟩; (replace HG := Lib.hid (HG.out.later ho)); (replace HI := Lib.hid (HI.out.later ho)); (obtain ⟨hi0, hi1, hi2, hi3⟩ := HI.out.four); (replace HO := Lib.hid (on_new HO.out ho)); have HJ := Lib.hid (Blk.new w1 29 [.slice A n c, .slice B m d, .int .i64 s, .int .i64 r]); have ho2 : Only (w1.heap.size ≤ ·) w1 (w1.alloc (.cells #[.slice A n c, .slice B m d, .int .i64 s, .int .i64 r] 29)) := (Only.refl _ w1).alloc (fun _ h => h) _; replace HO := Lib.hid (on_new HO.out ho2); replace HG := Lib.hid (HG.out.later ho2); replace HI := Lib.hid (HI.out.later ho2); clear ho2 ho))
      obtain ⟨p0, p1, p2, p3⟩ := HI.out.four
      go_quiet ((go_at_call 16; exact Calls.quiet_of_same (HW.out _)))
      replace HI := Lib.hid (HI.out.drewN nq)
      replace HJ := Lib.hid (HJ.out.drewN nq)
      replace HO := Lib.hid (HO.out.drewN nq)
      replace HG : Hid (Gens ((w1.alloc (.cells #[.slice A n c, .slice B m d, .int .i64 s, .int .i64 r] 29)).drewN nq)) := HG.out
      go_wp2_with (fail)
      obtain ⟨bx, hbx⟩ : ∃ bx, bx = w.heap.size := ⟨_, rfl⟩
      obtain ⟨bz, hbz⟩ : ∃ bz, bz = w1.heap.size := ⟨_, rfl⟩
      rw [← hbx] at HI ⊢
      rw [← hbz] at HJ ⊢
      generalize (w1.alloc _).drewN nq = W0 at HI HJ HG HO ⊢
      have HKEEP : Hid (∀ W : World, Only (W0.heap.size ≤ ·) W0 W → Both bx bz A n c B m d s r W) := fun W hW => both_of (HI.out.later hW) (HJ.out.later hW)
      have HGK : Hid (∀ W : World, Only (W0.heap.size ≤ ·) W0 W → Gens W) := fun W hW => HG.out.later hW
      have hO0 : Only (W0.heap.size ≤ ·) W0 W0.drew := (Only.refl _ W0).drew
      clear hbx hbz HI HJ HG
      unfold Both at HKEEP
      refine wp_region_held_drew (S := (fun w' => (w'.cell? ⟨bx, 0, none⟩ = some (.slice A n c) ∧ w'.cell? ⟨bx, 1, none⟩ = some (.slice B m d) ∧ w'.cell? ⟨bx, 2, none⟩ = some (.int .i64 s) ∧ w'.cell? ⟨bx, 3, none⟩ = some (.int .i64 r) ∧ w'.cell? ⟨bx, 0 + 1, none⟩ = some (.slice B m d) ∧ w'.cell? ⟨bx, 0 + 2, none⟩ = some (.int .i64 s) ∧ w'.cell? ⟨bx, 0 + 3, none⟩ = some (.int .i64 r)) ∧ (w'.cell? ⟨bz, 0, none⟩ = some (.slice A n c) ∧ w'.cell? ⟨bz, 1, none⟩ = some (.slice B m d) ∧ w'.cell? ⟨bz, 2, none⟩ = some (.int .i64 s) ∧ w'.cell? ⟨bz, 3, none⟩ = some (.int .i64 r) ∧ w'.cell? ⟨bz, 0 + 1, none⟩ = some (.slice B m d) ∧ w'.cell? ⟨bz, 0 + 2, none⟩ = some (.int .i64 s) ∧ w'.cell? ⟨bz, 0 + 3, none⟩ = some (.int .i64 r)))) (by kernel_rfl) (HKEEP.out _ hO0) (fun hHeld => ?_)
      refine wpAnyH_ready (rs := [0]) (by kernel_rfl) (by simp) ?_
      refine AllReadyH.cons (o := ?_) ?_ (fun K hK => ?_) AllReadyH.nil
      case refine_2 => (simp only [List.getElem?_toArray, List.getElem?_cons_zero]; rfl)
      go_simp
      (go_at_call 9; (with_reducible refine (alive_c _ (HGK.out _ hO0)).mono ?_); rintro e v1 ⟨rfl, ho⟩; have hO1 : Only (W0.heap.size ≤ ·) W0 v1 := hO0.trans (ho.mono fun k h => Nat.le_trans hO0.size h))
      go_wp2_with (fail)
      refine hK.out _ _ (HKEEP.out _ hO1) (fun hHeld => ?_)
      clear hK K
      try simp only [Act.put, List.setIfInBounds_toArray, List.set_cons_zero, List.set_cons_succ]
      refine take_one (i := 1) (d := 26) (oi := ?_) (v := ?_) ?_ (by kernel_rfl) (by kernel_rfl) (by kernel_rfl) (fun _ _ _ h => h) ?_ ?_ ?_ (by assumption) ?_
      case refine_3 => (simp only [List.getElem?_toArray, List.getElem?_cons_succ, List.getElem?_cons_zero]; rfl)
      case refine_4 => rfl
      case refine_5 => rfl
      case refine_6 => (intro w' hSw; (try dsimp only at hSw); go_simp; (try with_reducible rfl))
      simp only [Act.put, List.setIfInBounds_toArray, List.set_cons_zero, List.set_cons_succ]
      refine take_one (i := 2) (d := 27) (oi := ?_) (v := ?_) ?_ (by kernel_rfl) (by kernel_rfl) (by kernel_rfl) (fun _ _ _ h => h) ?_ ?_ ?_ (by assumption) ?_
      case refine_3 => (simp only [List.getElem?_toArray, List.getElem?_cons_succ, List.getElem?_cons_zero]; rfl)
      case refine_4 => rfl
      case refine_5 => rfl
      case refine_6 => (intro w' hSw; (try dsimp only at hSw); go_simp; (try with_reducible rfl))
      simp only [Act.put, List.setIfInBounds_toArray, List.set_cons_zero, List.set_cons_succ]
      refine take_one (i := 3) (d := 28) (oi := ?_) (v := ?_) ?_ (by kernel_rfl) (by kernel_rfl) (by kernel_rfl) (fun _ _ _ h => h) ?_ ?_ ?_ (by assumption) ?_
      case refine_3 => (simp only [List.getElem?_toArray, List.getElem?_cons_succ, List.getElem?_cons_zero]; rfl)
      case refine_4 => rfl
      case refine_5 => rfl
      case refine_6 => (intro w' hSw; (try dsimp only at hSw); go_simp; (try with_reducible rfl))
      simp only [Act.put, List.setIfInBounds_toArray, List.set_cons_zero, List.set_cons_succ]
      refine take_one (i := 5) (d := 30) (oi := ?_) (v := ?_) ?_ (by kernel_rfl) (by kernel_rfl) (by kernel_rfl) (fun _ _ _ h => h) ?_ ?_ ?_ (by assumption) ?_
      case refine_3 => (simp only [List.getElem?_toArray, List.getElem?_cons_succ, List.getElem?_cons_zero]; rfl)
      case refine_4 => rfl
      case refine_5 => rfl
      case refine_6 => (intro w' hSw; (try dsimp only at hSw); go_simp; (try with_reducible rfl))
      simp only [Act.put, List.setIfInBounds_toArray, List.set_cons_zero, List.set_cons_succ]
      refine take_one (i := 6) (d := 31) (oi := ?_) (v := ?_) ?_ (by kernel_rfl) (by kernel_rfl) (by kernel_rfl) (fun _ _ _ h => h) ?_ ?_ ?_ (by assumption) ?_
      case refine_3 => (simp only [List.getElem?_toArray, List.getElem?_cons_succ, List.getElem?_cons_zero]; rfl)
      case refine_4 => rfl
      case refine_5 => rfl
      case refine_6 => (intro w' hSw; (try dsimp only at hSw); go_simp; (try with_reducible rfl))
      simp only [Act.put, List.setIfInBounds_toArray, List.set_cons_zero, List.set_cons_succ]
      refine wpAnyH_ready (rs := [4]) (by kernel_rfl) (by simp) ?_
      refine AllReadyH.cons (o := ?_) ?_ (fun K hK => ?_) AllReadyH.nil
      case refine_2 => (simp only [List.getElem?_toArray, List.getElem?_cons_succ, List.getElem?_cons_zero]; rfl)
      go_simp
      (go_at_call 22; (with_reducible refine (HR.out _ (HGK.out _ hO1)).mono ?_); rintro e v2 ⟨rfl, ho⟩; have hO2 : Only (W0.heap.size ≤ ·) W0 v2 := hO1.trans (ho.mono fun k h => Nat.le_trans hO1.size h))
      go_wp2_with (fail)
      refine hK.out _ _ (HKEEP.out _ hO2) (fun hHeld => ?_)
      clear hK K
      try simp only [Act.put, List.setIfInBounds_toArray, List.set_cons_zero, List.set_cons_succ]
      refine wpAnyH_ready (rs := [7]) (by kernel_rfl) (by simp) ?_
      refine AllReadyH.cons (o := ?_) ?_ (fun K hK => ?_) AllReadyH.nil
      case refine_2 => (simp only [List.getElem?_toArray, List.getElem?_cons_succ, List.getElem?_cons_zero]; rfl)
      go_simp
      (go_at_call 23; (with_reducible refine (RR.out _).mono ?_); rintro e v3 ⟨rfl, ho⟩; have hO3 : Only (W0.heap.size ≤ ·) W0 v3 := hO2.trans (ho.mono fun k h => Nat.le_trans hO2.size h))
      go_wp2_with (fail)
      refine hK.out _ _ (HKEEP.out _ hO3) (fun hHeld => ?_)
      clear hK K
      try simp only [Act.put, List.setIfInBounds_toArray, List.set_cons_zero, List.set_cons_succ]
      refine take_one (i := 8) (d := 33) (oi := ?_) (v := ?_) ?_ (by kernel_rfl) (by kernel_rfl) (by kernel_rfl) (fun _ _ _ h => h) ?_ ?_ ?_ (by assumption) ?_
      case refine_3 => (simp only [List.getElem?_toArray, List.getElem?_cons_succ, List.getElem?_cons_zero]; rfl)
      case refine_4 => rfl
      case refine_5 => rfl
      case refine_6 => (intro w' hSw; (try dsimp only at hSw); go_simp; (try with_reducible rfl))
      simp only [Act.put, List.setIfInBounds_toArray, List.set_cons_zero, List.set_cons_succ]
      refine take_one (i := 9) (d := 34) (oi := ?_) (v := ?_) ?_ (by kernel_rfl) (by kernel_rfl) (by kernel_rfl) (fun _ _ _ h => h) ?_ ?_ ?_ (by assumption) ?_
      case refine_3 => (simp only [List.getElem?_toArray, List.getElem?_cons_succ, List.getElem?_cons_zero]; rfl)
      case refine_4 => rfl
      case refine_5 => rfl
      case refine_6 => (intro w' hSw; (try dsimp only at hSw); go_simp; (try with_reducible rfl))
      simp only [Act.put, List.setIfInBounds_toArray, List.set_cons_zero, List.set_cons_succ]
      refine take_one (i := 10) (d := 35) (oi := ?_) (v := ?_) ?_ (by kernel_rfl) (by kernel_rfl) (by kernel_rfl) (fun _ _ _ h => h) ?_ ?_ ?_ (by assumption) ?_
      case refine_3 => (simp only [List.getElem?_toArray, List.getElem?_cons_succ, List.getElem?_cons_zero]; rfl)
      case refine_4 => rfl
      case refine_5 => rfl
      case refine_6 => (intro w' hSw; (try dsimp only at hSw); go_simp; (try with_reducible rfl))
      simp only [Act.put, List.setIfInBounds_toArray, List.set_cons_zero, List.set_cons_succ]
      refine take_one (i := 11) (d := 36) (oi := ?_) (v := ?_) ?_ (by kernel_rfl) (by kernel_rfl) (by kernel_rfl) (fun _ _ _ h => h) ?_ ?_ ?_ (by assumption) ?_
      case refine_3 => (simp only [List.getElem?_toArray, List.getElem?_cons_succ, List.getElem?_cons_zero]; rfl)
      case refine_4 => rfl
      case refine_5 => rfl
      case refine_6 => (intro w' hSw; (try dsimp only at hSw); go_simp; (try with_reducible rfl))
      simp only [Act.put, List.setIfInBounds_toArray, List.set_cons_zero, List.set_cons_succ]
      refine take_one (i := 13) (d := 38) (oi := ?_) (v := ?_) ?_ (by kernel_rfl) (by kernel_rfl) (by kernel_rfl) (fun _ _ _ h => h) ?_ ?_ ?_ (by assumption) ?_
      case refine_3 => (simp only [List.getElem?_toArray, List.getElem?_cons_succ, List.getElem?_cons_zero]; rfl)
      case refine_4 => rfl
      case refine_5 => rfl
      case refine_6 => (intro w' hSw; (try dsimp only at hSw); go_simp; (try with_reducible rfl))
      simp only [Act.put, List.setIfInBounds_toArray, List.set_cons_zero, List.set_cons_succ]
      refine wpAnyH_ready (rs := [12]) (by kernel_rfl) (by simp) ?_
      refine AllReadyH.cons (o := ?_) ?_ (fun K hK => ?_) AllReadyH.nil
      case refine_2 => (simp only [List.getElem?_toArray, List.getElem?_cons_succ, List.getElem?_cons_zero]; rfl)
      go_simp
      (go_at_call 24; (with_reducible refine (HF.out _).mono ?_); rintro e v4 ⟨rfl, ho⟩; have hO4 : Only (W0.heap.size ≤ ·) W0 v4 := hO3.trans (ho.mono fun k h => Nat.le_trans hO3.size h))
      go_wp2_with (fail)
      refine hK.out _ _ (HKEEP.out _ hO4) (fun hHeld => ?_)
      clear hK K
      try simp only [Act.put, List.setIfInBounds_toArray, List.set_cons_zero, List.set_cons_succ]
      refine wpAnyH_ready (rs := [14]) (by kernel_rfl) (by simp) ?_
      refine AllReadyH.cons (o := ?_) ?_ (fun K hK => ?_) AllReadyH.nil
      case refine_2 => (simp only [List.getElem?_toArray, List.getElem?_cons_succ, List.getElem?_cons_zero]; rfl)
      go_simp
      (go_at_call 25; (with_reducible refine (RF.out _).mono ?_); rintro e v5 ⟨rfl, ho⟩; have hO5 : Only (W0.heap.size ≤ ·) W0 v5 := hO4.trans (ho.mono fun k h => Nat.le_trans hO4.size h))
      go_wp2_with (fail)
      refine hK.out _ _ (HKEEP.out _ hO5) (fun hHeld => ?_)
      clear hK K
      try simp only [Act.put, List.setIfInBounds_toArray, List.set_cons_zero, List.set_cons_succ]
      refine take_one (i := 15) (d := 40) (oi := ?_) (v := ?_) ?_ (by kernel_rfl) (by kernel_rfl) (by kernel_rfl) (fun _ _ _ h => h) ?_ ?_ ?_ (by assumption) ?_
      case refine_3 => (simp only [List.getElem?_toArray, List.getElem?_cons_succ, List.getElem?_cons_zero]; rfl)
      case refine_4 => rfl
      case refine_5 => rfl
      case refine_6 => (intro w' hSw; (try dsimp only at hSw); go_simp; (try with_reducible rfl))
      simp only [Act.put, List.setIfInBounds_toArray, List.set_cons_zero, List.set_cons_succ]
      refine take_one (i := 16) (d := 41) (oi := ?_) (v := ?_) ?_ (by kernel_rfl) (by kernel_rfl) (by kernel_rfl) (fun _ _ _ h => h) ?_ ?_ ?_ (by assumption) ?_
      case refine_3 => (simp only [List.getElem?_toArray, List.getElem?_cons_succ, List.getElem?_cons_zero]; rfl)
      case refine_4 => rfl
      case refine_5 => rfl
      case refine_6 => (intro w' hSw; (try dsimp only at hSw); go_simp; (try with_reducible rfl))
      simp only [Act.put, List.setIfInBounds_toArray, List.set_cons_zero, List.set_cons_succ]
      refine take_one (i := 17) (d := 42) (oi := ?_) (v := ?_) ?_ (by kernel_rfl) (by kernel_rfl) (by kernel_rfl) (fun _ _ _ h => h) ?_ ?_ ?_ (by assumption) ?_
      case refine_3 => (simp only [List.getElem?_toArray, List.getElem?_cons_succ, List.getElem?_cons_zero]; rfl)
      case refine_4 => rfl
      case refine_5 => rfl
      case refine_6 => (intro w' hSw; (try dsimp only at hSw); go_simp; (try with_reducible rfl))
      simp only [Act.put, List.setIfInBounds_toArray, List.set_cons_zero, List.set_cons_succ]
      refine take_one (i := 18) (d := 43) (oi := ?_) (v := ?_) ?_ (by kernel_rfl) (by kernel_rfl) (by kernel_rfl) (fun _ _ _ h => h) ?_ ?_ ?_ (by assumption) ?_
      case refine_3 => (simp only [List.getElem?_toArray, List.getElem?_cons_succ, List.getElem?_cons_zero]; rfl)
      case refine_4 => rfl
      case refine_5 => rfl
      case refine_6 => (intro w' hSw; (try dsimp only at hSw); go_simp; (try with_reducible rfl))
      simp only [Act.put, List.setIfInBounds_toArray, List.set_cons_zero, List.set_cons_succ]
      refine take_one (i := 20) (d := 45) (oi := ?_) (v := ?_) ?_ (by kernel_rfl) (by kernel_rfl) (by kernel_rfl) (fun _ _ _ h => h) ?_ ?_ ?_ (by assumption) ?_
      case refine_3 => (simp only [List.getElem?_toArray, List.getElem?_cons_succ, List.getElem?_cons_zero]; rfl)
      case refine_4 => rfl
      case refine_5 => rfl
      case refine_6 => (intro w' hSw; (try dsimp only at hSw); go_simp; (try with_reducible rfl))
      simp only [Act.put, List.setIfInBounds_toArray, List.set_cons_zero, List.set_cons_succ]
      refine wpAnyH_ready (rs := [19]) (by kernel_rfl) (by simp) ?_
      refine AllReadyH.cons (o := ?_) ?_ (fun K hK => ?_) AllReadyH.nil
      case refine_2 => (simp only [List.getElem?_toArray, List.getElem?_cons_succ, List.getElem?_cons_zero]; rfl)
      go_simp
      (go_at_call 26; (with_reducible refine (HL.out _).mono ?_); rintro e v6 ⟨rfl, ho⟩; have hO6 : Only (W0.heap.size ≤ ·) W0 v6 := hO5.trans (ho.mono fun k h => Nat.le_trans hO5.size h))
      go_wp2_with (fail)
      refine hK.out _ _ (HKEEP.out _ hO6) (fun hHeld => ?_)
      clear hK K
      try simp only [Act.put, List.setIfInBounds_toArray, List.set_cons_zero, List.set_cons_succ]
      refine wpAnyH_ready (rs := [21]) (by kernel_rfl) (by simp) ?_
      refine AllReadyH.cons (o := ?_) ?_ (fun K hK => ?_) AllReadyH.nil
      case refine_2 => (simp only [List.getElem?_toArray, List.getElem?_cons_succ, List.getElem?_cons_zero]; rfl)
      go_simp
      (go_at_call 27; (with_reducible refine (RL.out _).mono ?_); rintro e v7 ⟨rfl, ho⟩; have hO7 : Only (W0.heap.size ≤ ·) W0 v7 := hO6.trans (ho.mono fun k h => Nat.le_trans hO6.size h))
      go_wp2_with (fail)
      refine hK.out _ _ (HKEEP.out _ hO7) (fun hHeld => ?_)
      clear hK K
      try simp only [Act.put, List.setIfInBounds_toArray, List.set_cons_zero, List.set_cons_succ]
      refine take_one (i := 22) (d := 47) (oi := ?_) (v := ?_) ?_ (by kernel_rfl) (by kernel_rfl) (by kernel_rfl) (fun _ _ _ h => h) ?_ ?_ ?_ (by assumption) ?_
      case refine_3 => (simp only [List.getElem?_toArray, List.getElem?_cons_succ, List.getElem?_cons_zero]; rfl)
      case refine_4 => rfl
      case refine_5 => rfl
      case refine_6 => (intro w' hSw; (try dsimp only at hSw); go_simp; (try with_reducible rfl))
      simp only [Act.put, List.setIfInBounds_toArray, List.set_cons_zero, List.set_cons_succ]
      refine take_one (i := 23) (d := 48) (oi := ?_) (v := ?_) ?_ (by kernel_rfl) (by kernel_rfl) (by kernel_rfl) (fun _ _ _ h => h) ?_ ?_ ?_ (by assumption) ?_
      case refine_3 => (simp only [List.getElem?_toArray, List.getElem?_cons_succ, List.getElem?_cons_zero]; rfl)
      case refine_4 => rfl
      case refine_5 => rfl
      case refine_6 => (intro w' hSw; (try dsimp only at hSw); go_simp; (try with_reducible rfl))
      simp only [Act.put, List.setIfInBounds_toArray, List.set_cons_zero, List.set_cons_succ]
      refine take_one (i := 24) (d := 49) (oi := ?_) (v := ?_) ?_ (by kernel_rfl) (by kernel_rfl) (by kernel_rfl) (fun _ _ _ h => h) ?_ ?_ ?_ (by assumption) ?_
      case refine_3 => (simp only [List.getElem?_toArray, List.getElem?_cons_succ, List.getElem?_cons_zero]; rfl)
      case refine_4 => rfl
      case refine_5 => rfl
      case refine_6 => (intro w' hSw; (try dsimp only at hSw); go_simp; (try with_reducible rfl))
      simp only [Act.put, List.setIfInBounds_toArray, List.set_cons_zero, List.set_cons_succ]
      refine take_one (i := 25) (d := 50) (oi := ?_) (v := ?_) ?_ (by kernel_rfl) (by kernel_rfl) (by kernel_rfl) (fun _ _ _ h => h) ?_ ?_ ?_ (by assumption) ?_
      case refine_3 => (simp only [List.getElem?_toArray, List.getElem?_cons_succ, List.getElem?_cons_zero]; rfl)
      case refine_4 => rfl
      case refine_5 => rfl
      case refine_6 => (intro w' hSw; (try dsimp only at hSw); go_simp; (try with_reducible rfl))
      simp only [Act.put, List.setIfInBounds_toArray, List.set_cons_zero, List.set_cons_succ]
      refine take_one (i := 26) (d := 51) (oi := ?_) (v := ?_) ?_ (by kernel_rfl) (by kernel_rfl) (by kernel_rfl) (fun _ _ _ h => h) ?_ ?_ ?_ (by assumption) ?_
      case refine_3 => (simp only [List.getElem?_toArray, List.getElem?_cons_succ, List.getElem?_cons_zero]; rfl)
      case refine_4 => rfl
      case refine_5 => rfl
      case refine_6 => (intro w' hSw; (try dsimp only at hSw); go_simp; (try with_reducible rfl))
      simp only [Act.put, List.setIfInBounds_toArray, List.set_cons_zero, List.set_cons_succ]
      refine take_one (i := 28) (d := 53) (oi := ?_) (v := ?_) ?_ (by kernel_rfl) (by kernel_rfl) (by kernel_rfl) (fun _ _ _ h => h) ?_ ?_ ?_ (by assumption) ?_
      case refine_3 => (simp only [List.getElem?_toArray, List.getElem?_cons_succ, List.getElem?_cons_zero]; rfl)
      case refine_4 => rfl
      case refine_5 => rfl
      case refine_6 => (intro w' hSw; (try dsimp only at hSw); go_simp; (try with_reducible rfl))
      simp only [Act.put, List.setIfInBounds_toArray, List.set_cons_zero, List.set_cons_succ]
      refine take_one (i := 29) (d := 54) (oi := ?_) (v := ?_) ?_ (by kernel_rfl) (by kernel_rfl) (by kernel_rfl) (fun _ _ _ h => h) ?_ ?_ ?_ (by assumption) ?_
      case refine_3 => (simp only [List.getElem?_toArray, List.getElem?_cons_succ, List.getElem?_cons_zero]; rfl)
      case refine_4 => rfl
      case refine_5 => rfl
      case refine_6 => (intro w' hSw; (try dsimp only at hSw); go_simp; (try with_reducible rfl))
      simp only [Act.put, List.setIfInBounds_toArray, List.set_cons_zero, List.set_cons_succ]
      refine wpAnyH_ready (rs := [27]) (by kernel_rfl) (by simp) ?_
      refine AllReadyH.cons (o := ?_) ?_ (fun K hK => ?_) AllReadyH.nil
      case refine_2 => (simp only [List.getElem?_toArray, List.getElem?_cons_succ, List.getElem?_cons_zero]; rfl)
      go_simp
      (go_at_call 28; (with_reducible refine (HM.out _ (HGK.out _ hO7)).mono ?_); rintro e v8 ⟨rfl, ho⟩; have hO8 : Only (W0.heap.size ≤ ·) W0 v8 := hO7.trans (ho.mono fun k h => Nat.le_trans hO7.size h))
      go_wp2_with (fail)
      refine hK.out _ _ (HKEEP.out _ hO8) (fun hHeld => ?_)
      clear hK K
      try simp only [Act.put, List.setIfInBounds_toArray, List.set_cons_zero, List.set_cons_succ]
      refine wpAnyH_ready (rs := [30]) (by kernel_rfl) (by simp) ?_
      refine AllReadyH.cons (o := ?_) ?_ (fun K hK => ?_) AllReadyH.nil
      case refine_2 => (simp only [List.getElem?_toArray, List.getElem?_cons_succ, List.getElem?_cons_zero]; rfl)
      go_simp
      (go_at_call 29; (with_reducible refine (RM.out _).mono ?_); rintro e v9 ⟨rfl, ho⟩; have hO9 : Only (W0.heap.size ≤ ·) W0 v9 := hO8.trans (ho.mono fun k h => Nat.le_trans hO8.size h))
      go_wp2_with (fail)
      refine hK.out _ _ (HKEEP.out _ hO9) (fun hHeld => ?_)
      clear hK K
      try simp only [Act.put, List.setIfInBounds_toArray, List.set_cons_zero, List.set_cons_succ]
      refine take_one (i := 31) (d := 56) (oi := ?_) (v := ?_) ?_ (by kernel_rfl) (by kernel_rfl) (by kernel_rfl) (fun _ _ _ h => h) ?_ ?_ ?_ (by assumption) ?_
      case refine_3 => (simp only [List.getElem?_toArray, List.getElem?_cons_succ, List.getElem?_cons_zero]; rfl)
      case refine_4 => rfl
      case refine_5 => rfl
      case refine_6 => (intro w' hSw; (try dsimp only at hSw); go_simp; (try with_reducible rfl))
      simp only [Act.put, List.setIfInBounds_toArray, List.set_cons_zero, List.set_cons_succ]
      refine take_one (i := 32) (d := 57) (oi := ?_) (v := ?_) ?_ (by kernel_rfl) (by kernel_rfl) (by kernel_rfl) (fun _ _ _ h => h) ?_ ?_ ?_ (by assumption) ?_
      case refine_3 => (simp only [List.getElem?_toArray, List.getElem?_cons_succ, List.getElem?_cons_zero]; rfl)
      case refine_4 => rfl
      case refine_5 => rfl
      case refine_6 => (intro w' hSw; (try dsimp only at hSw); go_simp; (try with_reducible rfl))
      simp only [Act.put, List.setIfInBounds_toArray, List.set_cons_zero, List.set_cons_succ]
      refine take_one (i := 33) (d := 58) (oi := ?_) (v := ?_) ?_ (by kernel_rfl) (by kernel_rfl) (by kernel_rfl) (fun _ _ _ h => h) ?_ ?_ ?_ (by assumption) ?_
      case refine_3 => (simp only [List.getElem?_toArray, List.getElem?_cons_succ, List.getElem?_cons_zero]; rfl)
      case refine_4 => rfl
      case refine_5 => rfl
      case refine_6 => (intro w' hSw; (try dsimp only at hSw); go_simp; (try with_reducible rfl))
      simp only [Act.put, List.setIfInBounds_toArray, List.set_cons_zero, List.set_cons_succ]
      refine take_one (i := 34) (d := 59) (oi := ?_) (v := ?_) ?_ (by kernel_rfl) (by kernel_rfl) (by kernel_rfl) (fun _ _ _ h => h) ?_ ?_ ?_ (by assumption) ?_
      case refine_3 => (simp only [List.getElem?_toArray, List.getElem?_cons_succ, List.getElem?_cons_zero]; rfl)
      case refine_4 => rfl
      case refine_5 => rfl
      case refine_6 => (intro w' hSw; (try dsimp only at hSw); go_simp; (try with_reducible rfl))
      simp only [Act.put, List.setIfInBounds_toArray, List.set_cons_zero, List.set_cons_succ]
      refine take_one (i := 35) (d := 60) (oi := ?_) (v := ?_) ?_ (by kernel_rfl) (by kernel_rfl) (by kernel_rfl) (fun _ _ _ h => h) ?_ ?_ ?_ (by assumption) ?_
      case refine_3 => (simp only [List.getElem?_toArray, List.getElem?_cons_succ, List.getElem?_cons_zero]; rfl)
      case refine_4 => rfl
      case refine_5 => rfl
      case refine_6 => (intro w' hSw; (try dsimp only at hSw); go_simp; (try with_reducible rfl))
      simp only [Act.put, List.setIfInBounds_toArray, List.set_cons_zero, List.set_cons_succ]
      refine take_one (i := 36) (d := 61) (oi := ?_) (v := ?_) ?_ (by kernel_rfl) (by kernel_rfl) (by kernel_rfl) (fun _ _ _ h => h) ?_ ?_ ?_ (by assumption) ?_
      case refine_3 => (simp only [List.getElem?_toArray, List.getElem?_cons_succ, List.getElem?_cons_zero]; rfl)
      case refine_4 => rfl
      case refine_5 => rfl
      case refine_6 => (intro w' hSw; (try dsimp only at hSw); go_simp; (try with_reducible rfl))
      simp only [Act.put, List.setIfInBounds_toArray, List.set_cons_zero, List.set_cons_succ]
      refine take_one (i := 38) (d := 63) (oi := ?_) (v := ?_) ?_ (by kernel_rfl) (by kernel_rfl) (by kernel_rfl) (fun _ _ _ h => h) ?_ ?_ ?_ (by assumption) ?_
      case refine_3 => (simp only [List.getElem?_toArray, List.getElem?_cons_succ, List.getElem?_cons_zero]; rfl)
      case refine_4 => rfl
      case refine_5 => rfl
      case refine_6 => (intro w' hSw; (try dsimp only at hSw); go_simp; (try with_reducible rfl))
      simp only [Act.put, List.setIfInBounds_toArray, List.set_cons_zero, List.set_cons_succ]
      refine wpAnyH_ready (rs := [37]) (by kernel_rfl) (by simp) ?_
      refine AllReadyH.cons (o := ?_) ?_ (fun K hK => ?_) AllReadyH.nil
      case refine_2 => (simp only [List.getElem?_toArray, List.getElem?_cons_succ, List.getElem?_cons_zero]; rfl)
      go_simp
      (go_at_call 30; (with_reducible refine (HZ.out _ (HGK.out _ hO9)).mono ?_); rintro e v10 ⟨rfl, ho⟩; have hO10 : Only (W0.heap.size ≤ ·) W0 v10 := hO9.trans (ho.mono fun k h => Nat.le_trans hO9.size h))
      go_wp2_with (fail)
      refine hK.out _ _ (HKEEP.out _ hO10) (fun hHeld => ?_)
      clear hK K
      try simp only [Act.put, List.setIfInBounds_toArray, List.set_cons_zero, List.set_cons_succ]
      refine take_one (i := 39) (d := 64) (oi := ?_) (v := ?_) ?_ (by kernel_rfl) (by kernel_rfl) (by kernel_rfl) (fun _ _ _ h => h) ?_ ?_ ?_ (by assumption) ?_
      case refine_3 => (simp only [List.getElem?_toArray, List.getElem?_cons_succ, List.getElem?_cons_zero]; rfl)
      case refine_4 => rfl
      case refine_5 => rfl
      case refine_6 => (intro w' hSw; (try dsimp only at hSw); go_simp; (try with_reducible rfl))
      simp only [Act.put, List.setIfInBounds_toArray, List.set_cons_zero, List.set_cons_succ]
      refine take_one (i := 40) (d := 65) (oi := ?_) (v := ?_) ?_ (by kernel_rfl) (by kernel_rfl) (by kernel_rfl) (fun _ _ _ h => h) ?_ ?_ ?_ (by assumption) ?_
      case refine_3 => (simp only [List.getElem?_toArray, List.getElem?_cons_succ, List.getElem?_cons_zero]; rfl)
      case refine_4 => rfl
      case refine_5 => rfl
      case refine_6 => (intro w' hSw; (try dsimp only at hSw); go_simp; (try with_reducible rfl))
      simp only [Act.put, List.setIfInBounds_toArray, List.set_cons_zero, List.set_cons_succ]
      refine take_one (i := 41) (d := 66) (oi := ?_) (v := ?_) ?_ (by kernel_rfl) (by kernel_rfl) (by kernel_rfl) (fun _ _ _ h => h) ?_ ?_ ?_ (by assumption) ?_
      case refine_3 => (simp only [List.getElem?_toArray, List.getElem?_cons_succ, List.getElem?_cons_zero]; rfl)
      case refine_4 => rfl
      case refine_5 => rfl
      case refine_6 => (intro w' hSw; (try dsimp only at hSw); go_simp; (try with_reducible rfl))
      simp only [Act.put, List.setIfInBounds_toArray, List.set_cons_zero, List.set_cons_succ]
      refine take_one (i := 42) (d := 67) (oi := ?_) (v := ?_) ?_ (by kernel_rfl) (by kernel_rfl) (by kernel_rfl) (fun _ _ _ h => h) ?_ ?_ ?_ (by assumption) ?_
      case refine_3 => (simp only [List.getElem?_toArray, List.getElem?_cons_succ, List.getElem?_cons_zero]; rfl)
      case refine_4 => rfl
      case refine_5 => rfl
      case refine_6 => (intro w' hSw; (try dsimp only at hSw); go_simp; (try with_reducible rfl))
      simp only [Act.put, List.setIfInBounds_toArray, List.set_cons_zero, List.set_cons_succ]
      refine take_one (i := 43) (d := 68) (oi := ?_) (v := ?_) ?_ (by kernel_rfl) (by kernel_rfl) (by kernel_rfl) (fun _ _ _ h => h) ?_ ?_ ?_ (by assumption) ?_
      case refine_3 => (simp only [List.getElem?_toArray, List.getElem?_cons_succ, List.getElem?_cons_zero]; rfl)
      case refine_4 => rfl
      case refine_5 => rfl
      case refine_6 => (intro w' hSw; (try dsimp only at hSw); go_simp; (try with_reducible rfl))
      simp only [Act.put, List.setIfInBounds_toArray, List.set_cons_zero, List.set_cons_succ]
      refine take_one (i := 44) (d := 69) (oi := ?_) (v := ?_) ?_ (by kernel_rfl) (by kernel_rfl) (by kernel_rfl) (fun _ _ _ h => h) ?_ ?_ ?_ (by assumption) ?_
      case refine_3 => (simp only [List.getElem?_toArray, List.getElem?_cons_succ, List.getElem?_cons_zero]; rfl)
      case refine_4 => rfl
      case refine_5 => rfl
      case refine_6 => (intro w' hSw; (try dsimp only at hSw); go_simp; (try with_reducible rfl))
      simp only [Act.put, List.setIfInBounds_toArray, List.set_cons_zero, List.set_cons_succ]
      refine take_one (i := 45) (d := 70) (oi := ?_) (v := ?_) ?_ (by kernel_rfl) (by kernel_rfl) (by kernel_rfl) (fun _ _ _ h => h) ?_ ?_ ?_ (by assumption) ?_
      case refine_3 => (simp only [List.getElem?_toArray, List.getElem?_cons_succ, List.getElem?_cons_zero]; rfl)
      case refine_4 => rfl
      case refine_5 => rfl
      case refine_6 => (intro w' hSw; (try dsimp only at hSw); go_simp; (try with_reducible rfl))
      simp only [Act.put, List.setIfInBounds_toArray, List.set_cons_zero, List.set_cons_succ]
      refine take_one (i := 46) (d := 71) (oi := ?_) (v := ?_) ?_ (by kernel_rfl) (by kernel_rfl) (by kernel_rfl) (fun _ _ _ h => h) ?_ ?_ ?_ (by assumption) ?_
      case refine_3 => (simp only [List.getElem?_toArray, List.getElem?_cons_succ, List.getElem?_cons_zero]; rfl)
      case refine_4 => rfl
      case refine_5 => rfl
      case refine_6 => (intro w' hSw; (try dsimp only at hSw); go_simp; (try with_reducible rfl))
      simp only [Act.put, List.setIfInBounds_toArray, List.set_cons_zero, List.set_cons_succ]
      refine take_one (i := 48) (d := 73) (oi := ?_) (v := ?_) ?_ (by kernel_rfl) (by kernel_rfl) (by kernel_rfl) (fun _ _ _ h => h) ?_ ?_ ?_ (by assumption) ?_
      case refine_3 => (simp only [List.getElem?_toArray, List.getElem?_cons_succ, List.getElem?_cons_zero]; rfl)
      case refine_4 => rfl
      case refine_5 => rfl
      case refine_6 => (intro w' hSw; (try dsimp only at hSw); go_simp; (try with_reducible rfl))
      simp only [Act.put, List.setIfInBounds_toArray, List.set_cons_zero, List.set_cons_succ]
      refine take_one (i := 49) (d := 74) (oi := ?_) (v := ?_) ?_ (by kernel_rfl) (by kernel_rfl) (by kernel_rfl) (fun _ _ _ h => h) ?_ ?_ ?_ (by assumption) ?_
      case refine_3 => (simp only [List.getElem?_toArray, List.getElem?_cons_succ, List.getElem?_cons_zero]; rfl)
      case refine_4 => rfl
      case refine_5 => rfl
      case refine_6 => (intro w' hSw; (try dsimp only at hSw); go_simp; (try with_reducible rfl))
      simp only [Act.put, List.setIfInBounds_toArray, List.set_cons_zero, List.set_cons_succ]
      refine take_one (i := 50) (d := 75) (oi := ?_) (v := ?_) ?_ (by kernel_rfl) (by kernel_rfl) (by kernel_rfl) (fun _ _ _ h => h) ?_ ?_ ?_ (by assumption) ?_
      case refine_3 => (simp only [List.getElem?_toArray, List.getElem?_cons_succ, List.getElem?_cons_zero]; rfl)
      case refine_4 => rfl
      case refine_5 => rfl
      case refine_6 => (intro w' hSw; (try dsimp only at hSw); go_simp; (try with_reducible rfl))
      simp only [Act.put, List.setIfInBounds_toArray, List.set_cons_zero, List.set_cons_succ]
      refine take_one (i := 51) (d := 76) (oi := ?_) (v := ?_) ?_ (by kernel_rfl) (by kernel_rfl) (by kernel_rfl) (fun _ _ _ h => h) ?_ ?_ ?_ (by assumption) ?_
      case refine_3 => (simp only [List.getElem?_toArray, List.getElem?_cons_succ, List.getElem?_cons_zero]; rfl)
      case refine_4 => rfl
      case refine_5 => rfl
      case refine_6 => (intro w' hSw; (try dsimp only at hSw); go_simp; (try with_reducible rfl))
      simp only [Act.put, List.setIfInBounds_toArray, List.set_cons_zero, List.set_cons_succ]
      refine take_one (i := 52) (d := 77) (oi := ?_) (v := ?_) ?_ (by kernel_rfl) (by kernel_rfl) (by kernel_rfl) (fun _ _ _ h => h) ?_ ?_ ?_ (by assumption) ?_
      case refine_3 => (simp only [List.getElem?_toArray, List.getElem?_cons_succ, List.getElem?_cons_zero]; rfl)
      case refine_4 => rfl
      case refine_5 => rfl
      case refine_6 => (intro w' hSw; (try dsimp only at hSw); go_simp; (try with_reducible rfl))
      simp only [Act.put, List.setIfInBounds_toArray, List.set_cons_zero, List.set_cons_succ]
      refine wpAnyH_ready (rs := [47]) (by kernel_rfl) (by simp) ?_
      refine AllReadyH.cons (o := ?_) ?_ (fun K hK => ?_) AllReadyH.nil
      case refine_2 => (simp only [List.getElem?_toArray, List.getElem?_cons_succ, List.getElem?_cons_zero]; rfl)
      go_simp
      (go_at_call 31; (with_reducible refine (HY.out _ (HGK.out _ hO10)).mono ?_); rintro e v11 ⟨rfl, ho⟩; have hO11 : Only (W0.heap.size ≤ ·) W0 v11 := hO10.trans (ho.mono fun k h => Nat.le_trans hO10.size h))
      go_wp2_with (fail)
      refine hK.out _ _ (HKEEP.out _ hO11) (fun hHeld => ?_)
      clear hK K
      try simp only [Act.put, List.setIfInBounds_toArray, List.set_cons_zero, List.set_cons_succ]
      refine wpAnyH_ready (rs := [53]) (by kernel_rfl) (by simp) ?_
      refine AllReadyH.cons (o := ?_) ?_ (fun K hK => ?_) AllReadyH.nil
      case refine_2 => (simp only [List.getElem?_toArray, List.getElem?_cons_succ, List.getElem?_cons_zero]; rfl)
      go_simp
      (go_at_call 32; (with_reducible refine (RY.out _).mono ?_); rintro e v12 ⟨rfl, ho⟩; have hO12 : Only (W0.heap.size ≤ ·) W0 v12 := hO11.trans (ho.mono fun k h => Nat.le_trans hO11.size h))
      go_wp2_with (fail)
      refine hK.out _ _ (HKEEP.out _ hO12) (fun hHeld => ?_)
      clear hK K
      try simp only [Act.put, List.setIfInBounds_toArray, List.set_cons_zero, List.set_cons_succ]
      refine take_one (i := 54) (d := 79) (oi := ?_) (v := ?_) ?_ (by kernel_rfl) (by kernel_rfl) (by kernel_rfl) (fun _ _ _ h => h) ?_ ?_ ?_ (by assumption) ?_
      case refine_3 => (simp only [List.getElem?_toArray, List.getElem?_cons_succ, List.getElem?_cons_zero]; rfl)
      case refine_4 => rfl
      case refine_5 => rfl
      case refine_6 => (intro w' hSw; (try dsimp only at hSw); go_simp; (try with_reducible rfl))
      simp only [Act.put, List.setIfInBounds_toArray, List.set_cons_zero, List.set_cons_succ]
      refine take_one (i := 55) (d := 80) (oi := ?_) (v := ?_) ?_ (by kernel_rfl) (by kernel_rfl) (by kernel_rfl) (fun _ _ _ h => h) ?_ ?_ ?_ (by assumption) ?_
      case refine_3 => (simp only [List.getElem?_toArray, List.getElem?_cons_succ, List.getElem?_cons_zero]; rfl)
      case refine_4 => rfl
      case refine_5 => rfl
      case refine_6 => (intro w' hSw; (try dsimp only at hSw); go_simp; (try with_reducible rfl))
      simp only [Act.put, List.setIfInBounds_toArray, List.set_cons_zero, List.set_cons_succ]
      refine take_one (i := 56) (d := 4) (oi := ?_) (v := ?_) ?_ (by kernel_rfl) (by kernel_rfl) (by kernel_rfl) (fun _ _ _ h => h) ?_ ?_ ?_ (by assumption) ?_
      case refine_3 => (simp only [List.getElem?_toArray, List.getElem?_cons_succ, List.getElem?_cons_zero]; rfl)
      case refine_4 => rfl
      case refine_5 => rfl
      case refine_6 => (intro w' hSw; (try dsimp only at hSw); go_simp; (try with_reducible rfl))
      simp only [Act.put, List.setIfInBounds_toArray, List.set_cons_zero, List.set_cons_succ]
      refine wpAnyH_done (by kernel_rfl) ?_ _
      replace HO := Lib.hid (on_new HO.out hO12)
      clear hHeld
      go_wp2
      go_ret
      exact ⟨rfl, HO.out⟩
    · have HZ' : Hid (z = 0) := by show _ = _; rw [hz', if_neg (fun h => by have := (gen_iff g).1 h; omega)]
      rw [HZ'.out] at HZ
      clear hz' HZ'
      go_enter Tryd.func4, Tryd.ntmps4
      go_wp2_with (first
        | (go_at_call 21; (with_reducible refine (few_c _ _ _ _ _ _ _ _ _ _ HT.out).mono ?_); rintro e w1 ⟨rfl, ho⟩; (replace HG := Lib.hid (HG.out.later ho)); (replace HI := Lib.hid (HI.out.later ho)); (obtain ⟨hi0, hi1, hi2, hi3⟩ := HI.out.four); (replace HO := Lib.hid (on_new HO.out ho)); have HJ := Lib.hid (Blk.new w1 29 [.slice A n c, .slice B m d, .int .i64 s, .int .i64 r]); have ho2 : Only (w1.heap.size ≤ ·) w1 (w1.alloc (.cells #[.slice A n c, .slice B m d, .int .i64 s, .int .i64 r] 29)) := (Only.refl _ w1).alloc (fun _ h => h) _; replace HO := Lib.hid (on_new HO.out ho2); replace HG := Lib.hid (HG.out.later ho2); replace HI := Lib.hid (HI.out.later ho2); clear ho2 ho))
      obtain ⟨bx, hbx⟩ : ∃ bx, bx = w.heap.size := ⟨_, rfl⟩
      obtain ⟨bz, hbz⟩ : ∃ bz, bz = w1.heap.size := ⟨_, rfl⟩
      rw [← hbx] at HI ⊢
      rw [← hbz] at HJ ⊢
      generalize w1.alloc _ = W0 at HI HJ HG HO ⊢
      have HKEEP : Hid (∀ W : World, Only (W0.heap.size ≤ ·) W0 W → Both bx bz A n c B m d s r W) := fun W hW => both_of (HI.out.later hW) (HJ.out.later hW)
      have HGK : Hid (∀ W : World, Only (W0.heap.size ≤ ·) W0 W → Gens W) := fun W hW => HG.out.later hW
      have hO0 : Only (W0.heap.size ≤ ·) W0 W0.drew := (Only.refl _ W0).drew
      clear hbx hbz HI HJ HG
      unfold Both at HKEEP
      refine wp_region_held_drew (S := (fun w' => (w'.cell? ⟨bx, 0, none⟩ = some (.slice A n c) ∧ w'.cell? ⟨bx, 1, none⟩ = some (.slice B m d) ∧ w'.cell? ⟨bx, 2, none⟩ = some (.int .i64 s) ∧ w'.cell? ⟨bx, 3, none⟩ = some (.int .i64 r) ∧ w'.cell? ⟨bx, 0 + 1, none⟩ = some (.slice B m d) ∧ w'.cell? ⟨bx, 0 + 2, none⟩ = some (.int .i64 s) ∧ w'.cell? ⟨bx, 0 + 3, none⟩ = some (.int .i64 r)) ∧ (w'.cell? ⟨bz, 0, none⟩ = some (.slice A n c) ∧ w'.cell? ⟨bz, 1, none⟩ = some (.slice B m d) ∧ w'.cell? ⟨bz, 2, none⟩ = some (.int .i64 s) ∧ w'.cell? ⟨bz, 3, none⟩ = some (.int .i64 r) ∧ w'.cell? ⟨bz, 0 + 1, none⟩ = some (.slice B m d) ∧ w'.cell? ⟨bz, 0 + 2, none⟩ = some (.int .i64 s) ∧ w'.cell? ⟨bz, 0 + 3, none⟩ = some (.int .i64 r)))) (by kernel_rfl) (HKEEP.out _ hO0) (fun hHeld => ?_)
      refine wpAnyH_ready (rs := [0]) (by kernel_rfl) (by simp) ?_
      refine AllReadyH.cons (o := ?_) ?_ (fun K hK => ?_) AllReadyH.nil
      case refine_2 => (simp only [List.getElem?_toArray, List.getElem?_cons_zero]; rfl)
      go_simp
      (go_at_call 9; (with_reducible refine (alive_c _ (HGK.out _ hO0)).mono ?_); rintro e v1 ⟨rfl, ho⟩; have hO1 : Only (W0.heap.size ≤ ·) W0 v1 := hO0.trans (ho.mono fun k h => Nat.le_trans hO0.size h))
      go_wp2_with (fail)
      refine hK.out _ _ (HKEEP.out _ hO1) (fun hHeld => ?_)
      clear hK K
      try simp only [Act.put, List.setIfInBounds_toArray, List.set_cons_zero, List.set_cons_succ]
      refine take_one (i := 1) (d := 26) (oi := ?_) (v := ?_) ?_ (by kernel_rfl) (by kernel_rfl) (by kernel_rfl) (fun _ _ _ h => h) ?_ ?_ ?_ (by assumption) ?_
      case refine_3 => (simp only [List.getElem?_toArray, List.getElem?_cons_succ, List.getElem?_cons_zero]; rfl)
      case refine_4 => rfl
      case refine_5 => rfl
      case refine_6 => (intro w' hSw; (try dsimp only at hSw); go_simp; (try with_reducible rfl))
      simp only [Act.put, List.setIfInBounds_toArray, List.set_cons_zero, List.set_cons_succ]
      refine take_one (i := 2) (d := 27) (oi := ?_) (v := ?_) ?_ (by kernel_rfl) (by kernel_rfl) (by kernel_rfl) (fun _ _ _ h => h) ?_ ?_ ?_ (by assumption) ?_
      case refine_3 => (simp only [List.getElem?_toArray, List.getElem?_cons_succ, List.getElem?_cons_zero]; rfl)
      case refine_4 => rfl
      case refine_5 => rfl
      case refine_6 => (intro w' hSw; (try dsimp only at hSw); go_simp; (try with_reducible rfl))
      simp only [Act.put, List.setIfInBounds_toArray, List.set_cons_zero, List.set_cons_succ]
      refine take_one (i := 3) (d := 28) (oi := ?_) (v := ?_) ?_ (by kernel_rfl) (by kernel_rfl) (by kernel_rfl) (fun _ _ _ h => h) ?_ ?_ ?_ (by assumption) ?_
      case refine_3 => (simp only [List.getElem?_toArray, List.getElem?_cons_succ, List.getElem?_cons_zero]; rfl)
      case refine_4 => rfl
      case refine_5 => rfl
      case refine_6 => (intro w' hSw; (try dsimp only at hSw); go_simp; (try with_reducible rfl))
      simp only [Act.put, List.setIfInBounds_toArray, List.set_cons_zero, List.set_cons_succ]
      refine take_one (i := 5) (d := 30) (oi := ?_) (v := ?_) ?_ (by kernel_rfl) (by kernel_rfl) (by kernel_rfl) (fun _ _ _ h => h) ?_ ?_ ?_ (by assumption) ?_
      case refine_3 => (simp only [List.getElem?_toArray, List.getElem?_cons_succ, List.getElem?_cons_zero]; rfl)
      case refine_4 => rfl
      case refine_5 => rfl
      case refine_6 => (intro w' hSw; (try dsimp only at hSw); go_simp; (try with_reducible rfl))
      simp only [Act.put, List.setIfInBounds_toArray, List.set_cons_zero, List.set_cons_succ]
      refine take_one (i := 6) (d := 31) (oi := ?_) (v := ?_) ?_ (by kernel_rfl) (by kernel_rfl) (by kernel_rfl) (fun _ _ _ h => h) ?_ ?_ ?_ (by assumption) ?_
      case refine_3 => (simp only [List.getElem?_toArray, List.getElem?_cons_succ, List.getElem?_cons_zero]; rfl)
      case refine_4 => rfl
      case refine_5 => rfl
      case refine_6 => (intro w' hSw; (try dsimp only at hSw); go_simp; (try with_reducible rfl))
      simp only [Act.put, List.setIfInBounds_toArray, List.set_cons_zero, List.set_cons_succ]
      refine wpAnyH_ready (rs := [4]) (by kernel_rfl) (by simp) ?_
      refine AllReadyH.cons (o := ?_) ?_ (fun K hK => ?_) AllReadyH.nil
      case refine_2 => (simp only [List.getElem?_toArray, List.getElem?_cons_succ, List.getElem?_cons_zero]; rfl)
      go_simp
      (go_at_call 22; (with_reducible refine (HR.out _ (HGK.out _ hO1)).mono ?_); rintro e v2 ⟨rfl, ho⟩; have hO2 : Only (W0.heap.size ≤ ·) W0 v2 := hO1.trans (ho.mono fun k h => Nat.le_trans hO1.size h))
      go_wp2_with (fail)
      refine hK.out _ _ (HKEEP.out _ hO2) (fun hHeld => ?_)
      clear hK K
      try simp only [Act.put, List.setIfInBounds_toArray, List.set_cons_zero, List.set_cons_succ]
      refine wpAnyH_ready (rs := [7]) (by kernel_rfl) (by simp) ?_
      refine AllReadyH.cons (o := ?_) ?_ (fun K hK => ?_) AllReadyH.nil
      case refine_2 => (simp only [List.getElem?_toArray, List.getElem?_cons_succ, List.getElem?_cons_zero]; rfl)
      go_simp
      (go_at_call 23; (with_reducible refine (RR.out _).mono ?_); rintro e v3 ⟨rfl, ho⟩; have hO3 : Only (W0.heap.size ≤ ·) W0 v3 := hO2.trans (ho.mono fun k h => Nat.le_trans hO2.size h))
      go_wp2_with (fail)
      refine hK.out _ _ (HKEEP.out _ hO3) (fun hHeld => ?_)
      clear hK K
      try simp only [Act.put, List.setIfInBounds_toArray, List.set_cons_zero, List.set_cons_succ]
      refine take_one (i := 8) (d := 33) (oi := ?_) (v := ?_) ?_ (by kernel_rfl) (by kernel_rfl) (by kernel_rfl) (fun _ _ _ h => h) ?_ ?_ ?_ (by assumption) ?_
      case refine_3 => (simp only [List.getElem?_toArray, List.getElem?_cons_succ, List.getElem?_cons_zero]; rfl)
      case refine_4 => rfl
      case refine_5 => rfl
      case refine_6 => (intro w' hSw; (try dsimp only at hSw); go_simp; (try with_reducible rfl))
      simp only [Act.put, List.setIfInBounds_toArray, List.set_cons_zero, List.set_cons_succ]
      refine take_one (i := 9) (d := 34) (oi := ?_) (v := ?_) ?_ (by kernel_rfl) (by kernel_rfl) (by kernel_rfl) (fun _ _ _ h => h) ?_ ?_ ?_ (by assumption) ?_
      case refine_3 => (simp only [List.getElem?_toArray, List.getElem?_cons_succ, List.getElem?_cons_zero]; rfl)
      case refine_4 => rfl
      case refine_5 => rfl
      case refine_6 => (intro w' hSw; (try dsimp only at hSw); go_simp; (try with_reducible rfl))
      simp only [Act.put, List.setIfInBounds_toArray, List.set_cons_zero, List.set_cons_succ]
      refine take_one (i := 10) (d := 35) (oi := ?_) (v := ?_) ?_ (by kernel_rfl) (by kernel_rfl) (by kernel_rfl) (fun _ _ _ h => h) ?_ ?_ ?_ (by assumption) ?_
      case refine_3 => (simp only [List.getElem?_toArray, List.getElem?_cons_succ, List.getElem?_cons_zero]; rfl)
      case refine_4 => rfl
      case refine_5 => rfl
      case refine_6 => (intro w' hSw; (try dsimp only at hSw); go_simp; (try with_reducible rfl))
      simp only [Act.put, List.setIfInBounds_toArray, List.set_cons_zero, List.set_cons_succ]
      refine take_one (i := 11) (d := 36) (oi := ?_) (v := ?_) ?_ (by kernel_rfl) (by kernel_rfl) (by kernel_rfl) (fun _ _ _ h => h) ?_ ?_ ?_ (by assumption) ?_
      case refine_3 => (simp only [List.getElem?_toArray, List.getElem?_cons_succ, List.getElem?_cons_zero]; rfl)
      case refine_4 => rfl
      case refine_5 => rfl
      case refine_6 => (intro w' hSw; (try dsimp only at hSw); go_simp; (try with_reducible rfl))
      simp only [Act.put, List.setIfInBounds_toArray, List.set_cons_zero, List.set_cons_succ]
      refine take_one (i := 13) (d := 38) (oi := ?_) (v := ?_) ?_ (by kernel_rfl) (by kernel_rfl) (by kernel_rfl) (fun _ _ _ h => h) ?_ ?_ ?_ (by assumption) ?_
      case refine_3 => (simp only [List.getElem?_toArray, List.getElem?_cons_succ, List.getElem?_cons_zero]; rfl)
      case refine_4 => rfl
      case refine_5 => rfl
      case refine_6 => (intro w' hSw; (try dsimp only at hSw); go_simp; (try with_reducible rfl))
      simp only [Act.put, List.setIfInBounds_toArray, List.set_cons_zero, List.set_cons_succ]
      refine wpAnyH_ready (rs := [12]) (by kernel_rfl) (by simp) ?_
      refine AllReadyH.cons (o := ?_) ?_ (fun K hK => ?_) AllReadyH.nil
      case refine_2 => (simp only [List.getElem?_toArray, List.getElem?_cons_succ, List.getElem?_cons_zero]; rfl)
      go_simp
      (go_at_call 24; (with_reducible refine (HF.out _).mono ?_); rintro e v4 ⟨rfl, ho⟩; have hO4 : Only (W0.heap.size ≤ ·) W0 v4 := hO3.trans (ho.mono fun k h => Nat.le_trans hO3.size h))
      go_wp2_with (fail)
      refine hK.out _ _ (HKEEP.out _ hO4) (fun hHeld => ?_)
      clear hK K
      try simp only [Act.put, List.setIfInBounds_toArray, List.set_cons_zero, List.set_cons_succ]
      refine wpAnyH_ready (rs := [14]) (by kernel_rfl) (by simp) ?_
      refine AllReadyH.cons (o := ?_) ?_ (fun K hK => ?_) AllReadyH.nil
      case refine_2 => (simp only [List.getElem?_toArray, List.getElem?_cons_succ, List.getElem?_cons_zero]; rfl)
      go_simp
      (go_at_call 25; (with_reducible refine (RF.out _).mono ?_); rintro e v5 ⟨rfl, ho⟩; have hO5 : Only (W0.heap.size ≤ ·) W0 v5 := hO4.trans (ho.mono fun k h => Nat.le_trans hO4.size h))
      go_wp2_with (fail)
      refine hK.out _ _ (HKEEP.out _ hO5) (fun hHeld => ?_)
      clear hK K
      try simp only [Act.put, List.setIfInBounds_toArray, List.set_cons_zero, List.set_cons_succ]
      refine take_one (i := 15) (d := 40) (oi := ?_) (v := ?_) ?_ (by kernel_rfl) (by kernel_rfl) (by kernel_rfl) (fun _ _ _ h => h) ?_ ?_ ?_ (by assumption) ?_
      case refine_3 => (simp only [List.getElem?_toArray, List.getElem?_cons_succ, List.getElem?_cons_zero]; rfl)
      case refine_4 => rfl
      case refine_5 => rfl
      case refine_6 => (intro w' hSw; (try dsimp only at hSw); go_simp; (try with_reducible rfl))
      simp only [Act.put, List.setIfInBounds_toArray, List.set_cons_zero, List.set_cons_succ]
      refine take_one (i := 16) (d := 41) (oi := ?_) (v := ?_) ?_ (by kernel_rfl) (by kernel_rfl) (by kernel_rfl) (fun _ _ _ h => h) ?_ ?_ ?_ (by assumption) ?_
      case refine_3 => (simp only [List.getElem?_toArray, List.getElem?_cons_succ, List.getElem?_cons_zero]; rfl)
      case refine_4 => rfl
      case refine_5 => rfl
      case refine_6 => (intro w' hSw; (try dsimp only at hSw); go_simp; (try with_reducible rfl))
      simp only [Act.put, List.setIfInBounds_toArray, List.set_cons_zero, List.set_cons_succ]
      refine take_one (i := 17) (d := 42) (oi := ?_) (v := ?_) ?_ (by kernel_rfl) (by kernel_rfl) (by kernel_rfl) (fun _ _ _ h => h) ?_ ?_ ?_ (by assumption) ?_
      case refine_3 => (simp only [List.getElem?_toArray, List.getElem?_cons_succ, List.getElem?_cons_zero]; rfl)
      case refine_4 => rfl
      case refine_5 => rfl
      case refine_6 => (intro w' hSw; (try dsimp only at hSw); go_simp; (try with_reducible rfl))
      simp only [Act.put, List.setIfInBounds_toArray, List.set_cons_zero, List.set_cons_succ]
      refine take_one (i := 18) (d := 43) (oi := ?_) (v := ?_) ?_ (by kernel_rfl) (by kernel_rfl) (by kernel_rfl) (fun _ _ _ h => h) ?_ ?_ ?_ (by assumption) ?_
      case refine_3 => (simp only [List.getElem?_toArray, List.getElem?_cons_succ, List.getElem?_cons_zero]; rfl)
      case refine_4 => rfl
      case refine_5 => rfl
      case refine_6 => (intro w' hSw; (try dsimp only at hSw); go_simp; (try with_reducible rfl))
      simp only [Act.put, List.setIfInBounds_toArray, List.set_cons_zero, List.set_cons_succ]
      refine take_one (i := 20) (d := 45) (oi := ?_) (v := ?_) ?_ (by kernel_rfl) (by kernel_rfl) (by kernel_rfl) (fun _ _ _ h => h) ?_ ?_ ?_ (by assumption) ?_
      case refine_3 => (simp only [List.getElem?_toArray, List.getElem?_cons_succ, List.getElem?_cons_zero]; rfl)
      case refine_4 => rfl
      case refine_5 => rfl
      case refine_6 => (intro w' hSw; (try dsimp only at hSw); go_simp; (try with_reducible rfl))
      simp only [Act.put, List.setIfInBounds_toArray, List.set_cons_zero, List.set_cons_succ]
      refine wpAnyH_ready (rs := [19]) (by kernel_rfl) (by simp) ?_
      refine AllReadyH.cons (o := ?_) ?_ (fun K hK => ?_) AllReadyH.nil
      case refine_2 => (simp only [List.getElem?_toArray, List.getElem?_cons_succ, List.getElem?_cons_zero]; rfl)
      go_simp
      (go_at_call 26; (with_reducible refine (HL.out _).mono ?_); rintro e v6 ⟨rfl, ho⟩; have hO6 : Only (W0.heap.size ≤ ·) W0 v6 := hO5.trans (ho.mono fun k h => Nat.le_trans hO5.size h))
      go_wp2_with (fail)
      refine hK.out _ _ (HKEEP.out _ hO6) (fun hHeld => ?_)
      clear hK K
      try simp only [Act.put, List.setIfInBounds_toArray, List.set_cons_zero, List.set_cons_succ]
      refine wpAnyH_ready (rs := [21]) (by kernel_rfl) (by simp) ?_
      refine AllReadyH.cons (o := ?_) ?_ (fun K hK => ?_) AllReadyH.nil
      case refine_2 => (simp only [List.getElem?_toArray, List.getElem?_cons_succ, List.getElem?_cons_zero]; rfl)
      go_simp
      (go_at_call 27; (with_reducible refine (RL.out _).mono ?_); rintro e v7 ⟨rfl, ho⟩; have hO7 : Only (W0.heap.size ≤ ·) W0 v7 := hO6.trans (ho.mono fun k h => Nat.le_trans hO6.size h))
      go_wp2_with (fail)
      refine hK.out _ _ (HKEEP.out _ hO7) (fun hHeld => ?_)
      clear hK K
      try simp only [Act.put, List.setIfInBounds_toArray, List.set_cons_zero, List.set_cons_succ]
      refine take_one (i := 22) (d := 47) (oi := ?_) (v := ?_) ?_ (by kernel_rfl) (by kernel_rfl) (by kernel_rfl) (fun _ _ _ h => h) ?_ ?_ ?_ (by assumption) ?_
      case refine_3 => (simp only [List.getElem?_toArray, List.getElem?_cons_succ, List.getElem?_cons_zero]; rfl)
      case refine_4 => rfl
      case refine_5 => rfl
      case refine_6 => (intro w' hSw; (try dsimp only at hSw); go_simp; (try with_reducible rfl))
      simp only [Act.put, List.setIfInBounds_toArray, List.set_cons_zero, List.set_cons_succ]
      refine take_one (i := 23) (d := 48) (oi := ?_) (v := ?_) ?_ (by kernel_rfl) (by kernel_rfl) (by kernel_rfl) (fun _ _ _ h => h) ?_ ?_ ?_ (by assumption) ?_
      case refine_3 => (simp only [List.getElem?_toArray, List.getElem?_cons_succ, List.getElem?_cons_zero]; rfl)
      case refine_4 => rfl
      case refine_5 => rfl
      case refine_6 => (intro w' hSw; (try dsimp only at hSw); go_simp; (try with_reducible rfl))
      simp only [Act.put, List.setIfInBounds_toArray, List.set_cons_zero, List.set_cons_succ]
      refine take_one (i := 24) (d := 49) (oi := ?_) (v := ?_) ?_ (by kernel_rfl) (by kernel_rfl) (by kernel_rfl) (fun _ _ _ h => h) ?_ ?_ ?_ (by assumption) ?_
      case refine_3 => (simp only [List.getElem?_toArray, List.getElem?_cons_succ, List.getElem?_cons_zero]; rfl)
      case refine_4 => rfl
      case refine_5 => rfl
      case refine_6 => (intro w' hSw; (try dsimp only at hSw); go_simp; (try with_reducible rfl))
      simp only [Act.put, List.setIfInBounds_toArray, List.set_cons_zero, List.set_cons_succ]
      refine take_one (i := 25) (d := 50) (oi := ?_) (v := ?_) ?_ (by kernel_rfl) (by kernel_rfl) (by kernel_rfl) (fun _ _ _ h => h) ?_ ?_ ?_ (by assumption) ?_
      case refine_3 => (simp only [List.getElem?_toArray, List.getElem?_cons_succ, List.getElem?_cons_zero]; rfl)
      case refine_4 => rfl
      case refine_5 => rfl
      case refine_6 => (intro w' hSw; (try dsimp only at hSw); go_simp; (try with_reducible rfl))
      simp only [Act.put, List.setIfInBounds_toArray, List.set_cons_zero, List.set_cons_succ]
      refine take_one (i := 26) (d := 51) (oi := ?_) (v := ?_) ?_ (by kernel_rfl) (by kernel_rfl) (by kernel_rfl) (fun _ _ _ h => h) ?_ ?_ ?_ (by assumption) ?_
      case refine_3 => (simp only [List.getElem?_toArray, List.getElem?_cons_succ, List.getElem?_cons_zero]; rfl)
      case refine_4 => rfl
      case refine_5 => rfl
      case refine_6 => (intro w' hSw; (try dsimp only at hSw); go_simp; (try with_reducible rfl))
      simp only [Act.put, List.setIfInBounds_toArray, List.set_cons_zero, List.set_cons_succ]
      refine take_one (i := 28) (d := 53) (oi := ?_) (v := ?_) ?_ (by kernel_rfl) (by kernel_rfl) (by kernel_rfl) (fun _ _ _ h => h) ?_ ?_ ?_ (by assumption) ?_
      case refine_3 => (simp only [List.getElem?_toArray, List.getElem?_cons_succ, List.getElem?_cons_zero]; rfl)
      case refine_4 => rfl
      case refine_5 => rfl
      case refine_6 => (intro w' hSw; (try dsimp only at hSw); go_simp; (try with_reducible rfl))
      simp only [Act.put, List.setIfInBounds_toArray, List.set_cons_zero, List.set_cons_succ]
      refine take_one (i := 29) (d := 54) (oi := ?_) (v := ?_) ?_ (by kernel_rfl) (by kernel_rfl) (by kernel_rfl) (fun _ _ _ h => h) ?_ ?_ ?_ (by assumption) ?_
      case refine_3 => (simp only [List.getElem?_toArray, List.getElem?_cons_succ, List.getElem?_cons_zero]; rfl)
      case refine_4 => rfl
      case refine_5 => rfl
      case refine_6 => (intro w' hSw; (try dsimp only at hSw); go_simp; (try with_reducible rfl))
      simp only [Act.put, List.setIfInBounds_toArray, List.set_cons_zero, List.set_cons_succ]
      refine wpAnyH_ready (rs := [27]) (by kernel_rfl) (by simp) ?_
      refine AllReadyH.cons (o := ?_) ?_ (fun K hK => ?_) AllReadyH.nil
      case refine_2 => (simp only [List.getElem?_toArray, List.getElem?_cons_succ, List.getElem?_cons_zero]; rfl)
      go_simp
      (go_at_call 28; (with_reducible refine (HM.out _ (HGK.out _ hO7)).mono ?_); rintro e v8 ⟨rfl, ho⟩; have hO8 : Only (W0.heap.size ≤ ·) W0 v8 := hO7.trans (ho.mono fun k h => Nat.le_trans hO7.size h))
      go_wp2_with (fail)
      refine hK.out _ _ (HKEEP.out _ hO8) (fun hHeld => ?_)
      clear hK K
      try simp only [Act.put, List.setIfInBounds_toArray, List.set_cons_zero, List.set_cons_succ]
      refine wpAnyH_ready (rs := [30]) (by kernel_rfl) (by simp) ?_
      refine AllReadyH.cons (o := ?_) ?_ (fun K hK => ?_) AllReadyH.nil
      case refine_2 => (simp only [List.getElem?_toArray, List.getElem?_cons_succ, List.getElem?_cons_zero]; rfl)
      go_simp
      (go_at_call 29; (with_reducible refine (RM.out _).mono ?_); rintro e v9 ⟨rfl, ho⟩; have hO9 : Only (W0.heap.size ≤ ·) W0 v9 := hO8.trans (ho.mono fun k h => Nat.le_trans hO8.size h))
      go_wp2_with (fail)
      refine hK.out _ _ (HKEEP.out _ hO9) (fun hHeld => ?_)
      clear hK K
      try simp only [Act.put, List.setIfInBounds_toArray, List.set_cons_zero, List.set_cons_succ]
      refine take_one (i := 31) (d := 56) (oi := ?_) (v := ?_) ?_ (by kernel_rfl) (by kernel_rfl) (by kernel_rfl) (fun _ _ _ h => h) ?_ ?_ ?_ (by assumption) ?_
      case refine_3 => (simp only [List.getElem?_toArray, List.getElem?_cons_succ, List.getElem?_cons_zero]; rfl)
      case refine_4 => rfl
      case refine_5 => rfl
      case refine_6 => (intro w' hSw; (try dsimp only at hSw); go_simp; (try with_reducible rfl))
      simp only [Act.put, List.setIfInBounds_toArray, List.set_cons_zero, List.set_cons_succ]
      refine take_one (i := 32) (d := 57) (oi := ?_) (v := ?_) ?_ (by kernel_rfl) (by kernel_rfl) (by kernel_rfl) (fun _ _ _ h => h) ?_ ?_ ?_ (by assumption) ?_
      case refine_3 => (simp only [List.getElem?_toArray, List.getElem?_cons_succ, List.getElem?_cons_zero]; rfl)
      case refine_4 => rfl
      case refine_5 => rfl
      case refine_6 => (intro w' hSw; (try dsimp only at hSw); go_simp; (try with_reducible rfl))
      simp only [Act.put, List.setIfInBounds_toArray, List.set_cons_zero, List.set_cons_succ]
      refine take_one (i := 33) (d := 58) (oi := ?_) (v := ?_) ?_ (by kernel_rfl) (by kernel_rfl) (by kernel_rfl) (fun _ _ _ h => h) ?_ ?_ ?_ (by assumption) ?_
      case refine_3 => (simp only [List.getElem?_toArray, List.getElem?_cons_succ, List.getElem?_cons_zero]; rfl)
      case refine_4 => rfl
      case refine_5 => rfl
      case refine_6 => (intro w' hSw; (try dsimp only at hSw); go_simp; (try with_reducible rfl))
      simp only [Act.put, List.setIfInBounds_toArray, List.set_cons_zero, List.set_cons_succ]
      refine take_one (i := 34) (d := 59) (oi := ?_) (v := ?_) ?_ (by kernel_rfl) (by kernel_rfl) (by kernel_rfl) (fun _ _ _ h => h) ?_ ?_ ?_ (by assumption) ?_
      case refine_3 => (simp only [List.getElem?_toArray, List.getElem?_cons_succ, List.getElem?_cons_zero]; rfl)
      case refine_4 => rfl
      case refine_5 => rfl
      case refine_6 => (intro w' hSw; (try dsimp only at hSw); go_simp; (try with_reducible rfl))
      simp only [Act.put, List.setIfInBounds_toArray, List.set_cons_zero, List.set_cons_succ]
      refine take_one (i := 35) (d := 60) (oi := ?_) (v := ?_) ?_ (by kernel_rfl) (by kernel_rfl) (by kernel_rfl) (fun _ _ _ h => h) ?_ ?_ ?_ (by assumption) ?_
      case refine_3 => (simp only [List.getElem?_toArray, List.getElem?_cons_succ, List.getElem?_cons_zero]; rfl)
      case refine_4 => rfl
      case refine_5 => rfl
      case refine_6 => (intro w' hSw; (try dsimp only at hSw); go_simp; (try with_reducible rfl))
      simp only [Act.put, List.setIfInBounds_toArray, List.set_cons_zero, List.set_cons_succ]
      refine take_one (i := 36) (d := 61) (oi := ?_) (v := ?_) ?_ (by kernel_rfl) (by kernel_rfl) (by kernel_rfl) (fun _ _ _ h => h) ?_ ?_ ?_ (by assumption) ?_
      case refine_3 => (simp only [List.getElem?_toArray, List.getElem?_cons_succ, List.getElem?_cons_zero]; rfl)
      case refine_4 => rfl
      case refine_5 => rfl
      case refine_6 => (intro w' hSw; (try dsimp only at hSw); go_simp; (try with_reducible rfl))
      simp only [Act.put, List.setIfInBounds_toArray, List.set_cons_zero, List.set_cons_succ]
      refine take_one (i := 38) (d := 63) (oi := ?_) (v := ?_) ?_ (by kernel_rfl) (by kernel_rfl) (by kernel_rfl) (fun _ _ _ h => h) ?_ ?_ ?_ (by assumption) ?_
      case refine_3 => (simp only [List.getElem?_toArray, List.getElem?_cons_succ, List.getElem?_cons_zero]; rfl)
      case refine_4 => rfl
      case refine_5 => rfl
      case refine_6 => (intro w' hSw; (try dsimp only at hSw); go_simp; (try with_reducible rfl))
      simp only [Act.put, List.setIfInBounds_toArray, List.set_cons_zero, List.set_cons_succ]
      refine wpAnyH_ready (rs := [37]) (by kernel_rfl) (by simp) ?_
      refine AllReadyH.cons (o := ?_) ?_ (fun K hK => ?_) AllReadyH.nil
      case refine_2 => (simp only [List.getElem?_toArray, List.getElem?_cons_succ, List.getElem?_cons_zero]; rfl)
      go_simp
      (go_at_call 30; (with_reducible refine (HZ.out _ (HGK.out _ hO9)).mono ?_); rintro e v10 ⟨rfl, ho⟩; have hO10 : Only (W0.heap.size ≤ ·) W0 v10 := hO9.trans (ho.mono fun k h => Nat.le_trans hO9.size h))
      go_wp2_with (fail)
      refine hK.out _ _ (HKEEP.out _ hO10) (fun hHeld => ?_)
      clear hK K
      try simp only [Act.put, List.setIfInBounds_toArray, List.set_cons_zero, List.set_cons_succ]
      refine take_one (i := 39) (d := 64) (oi := ?_) (v := ?_) ?_ (by kernel_rfl) (by kernel_rfl) (by kernel_rfl) (fun _ _ _ h => h) ?_ ?_ ?_ (by assumption) ?_
      case refine_3 => (simp only [List.getElem?_toArray, List.getElem?_cons_succ, List.getElem?_cons_zero]; rfl)
      case refine_4 => rfl
      case refine_5 => rfl
      case refine_6 => (intro w' hSw; (try dsimp only at hSw); go_simp; (try with_reducible rfl))
      simp only [Act.put, List.setIfInBounds_toArray, List.set_cons_zero, List.set_cons_succ]
      refine take_one (i := 40) (d := 65) (oi := ?_) (v := ?_) ?_ (by kernel_rfl) (by kernel_rfl) (by kernel_rfl) (fun _ _ _ h => h) ?_ ?_ ?_ (by assumption) ?_
      case refine_3 => (simp only [List.getElem?_toArray, List.getElem?_cons_succ, List.getElem?_cons_zero]; rfl)
      case refine_4 => rfl
      case refine_5 => rfl
      case refine_6 => (intro w' hSw; (try dsimp only at hSw); go_simp; (try with_reducible rfl))
      simp only [Act.put, List.setIfInBounds_toArray, List.set_cons_zero, List.set_cons_succ]
      refine take_one (i := 41) (d := 66) (oi := ?_) (v := ?_) ?_ (by kernel_rfl) (by kernel_rfl) (by kernel_rfl) (fun _ _ _ h => h) ?_ ?_ ?_ (by assumption) ?_
      case refine_3 => (simp only [List.getElem?_toArray, List.getElem?_cons_succ, List.getElem?_cons_zero]; rfl)
      case refine_4 => rfl
      case refine_5 => rfl
      case refine_6 => (intro w' hSw; (try dsimp only at hSw); go_simp; (try with_reducible rfl))
      simp only [Act.put, List.setIfInBounds_toArray, List.set_cons_zero, List.set_cons_succ]
      refine take_one (i := 42) (d := 67) (oi := ?_) (v := ?_) ?_ (by kernel_rfl) (by kernel_rfl) (by kernel_rfl) (fun _ _ _ h => h) ?_ ?_ ?_ (by assumption) ?_
      case refine_3 => (simp only [List.getElem?_toArray, List.getElem?_cons_succ, List.getElem?_cons_zero]; rfl)
      case refine_4 => rfl
      case refine_5 => rfl
      case refine_6 => (intro w' hSw; (try dsimp only at hSw); go_simp; (try with_reducible rfl))
      simp only [Act.put, List.setIfInBounds_toArray, List.set_cons_zero, List.set_cons_succ]
      refine take_one (i := 43) (d := 68) (oi := ?_) (v := ?_) ?_ (by kernel_rfl) (by kernel_rfl) (by kernel_rfl) (fun _ _ _ h => h) ?_ ?_ ?_ (by assumption) ?_
      case refine_3 => (simp only [List.getElem?_toArray, List.getElem?_cons_succ, List.getElem?_cons_zero]; rfl)
      case refine_4 => rfl
      case refine_5 => rfl
      case refine_6 => (intro w' hSw; (try dsimp only at hSw); go_simp; (try with_reducible rfl))
      simp only [Act.put, List.setIfInBounds_toArray, List.set_cons_zero, List.set_cons_succ]
      refine take_one (i := 44) (d := 69) (oi := ?_) (v := ?_) ?_ (by kernel_rfl) (by kernel_rfl) (by kernel_rfl) (fun _ _ _ h => h) ?_ ?_ ?_ (by assumption) ?_
      case refine_3 => (simp only [List.getElem?_toArray, List.getElem?_cons_succ, List.getElem?_cons_zero]; rfl)
      case refine_4 => rfl
      case refine_5 => rfl
      case refine_6 => (intro w' hSw; (try dsimp only at hSw); go_simp; (try with_reducible rfl))
      simp only [Act.put, List.setIfInBounds_toArray, List.set_cons_zero, List.set_cons_succ]
      refine take_one (i := 45) (d := 70) (oi := ?_) (v := ?_) ?_ (by kernel_rfl) (by kernel_rfl) (by kernel_rfl) (fun _ _ _ h => h) ?_ ?_ ?_ (by assumption) ?_
      case refine_3 => (simp only [List.getElem?_toArray, List.getElem?_cons_succ, List.getElem?_cons_zero]; rfl)
      case refine_4 => rfl
      case refine_5 => rfl
      case refine_6 => (intro w' hSw; (try dsimp only at hSw); go_simp; (try with_reducible rfl))
      simp only [Act.put, List.setIfInBounds_toArray, List.set_cons_zero, List.set_cons_succ]
      refine take_one (i := 46) (d := 71) (oi := ?_) (v := ?_) ?_ (by kernel_rfl) (by kernel_rfl) (by kernel_rfl) (fun _ _ _ h => h) ?_ ?_ ?_ (by assumption) ?_
      case refine_3 => (simp only [List.getElem?_toArray, List.getElem?_cons_succ, List.getElem?_cons_zero]; rfl)
      case refine_4 => rfl
      case refine_5 => rfl
      case refine_6 => (intro w' hSw; (try dsimp only at hSw); go_simp; (try with_reducible rfl))
      simp only [Act.put, List.setIfInBounds_toArray, List.set_cons_zero, List.set_cons_succ]
      refine take_one (i := 48) (d := 73) (oi := ?_) (v := ?_) ?_ (by kernel_rfl) (by kernel_rfl) (by kernel_rfl) (fun _ _ _ h => h) ?_ ?_ ?_ (by assumption) ?_
      case refine_3 => (simp only [List.getElem?_toArray, List.getElem?_cons_succ, List.getElem?_cons_zero]; rfl)
      case refine_4 => rfl
      case refine_5 => rfl
      case refine_6 => (intro w' hSw; (try dsimp only at hSw); go_simp; (try with_reducible rfl))
      simp only [Act.put, List.setIfInBounds_toArray, List.set_cons_zero, List.set_cons_succ]
      refine take_one (i := 49) (d := 74) (oi := ?_) (v := ?_) ?_ (by kernel_rfl) (by kernel_rfl) (by kernel_rfl) (fun _ _ _ h => h) ?_ ?_ ?_ (by assumption) ?_
      case refine_3 => (simp only [List.getElem?_toArray, List.getElem?_cons_succ, List.getElem?_cons_zero]; rfl)
      case refine_4 => rfl
      case refine_5 => rfl
      case refine_6 => (intro w' hSw; (try dsimp only at hSw); go_simp; (try with_reducible rfl))
      simp only [Act.put, List.setIfInBounds_toArray, List.set_cons_zero, List.set_cons_succ]
      refine take_one (i := 50) (d := 75) (oi := ?_) (v := ?_) ?_ (by kernel_rfl) (by kernel_rfl) (by kernel_rfl) (fun _ _ _ h => h) ?_ ?_ ?_ (by assumption) ?_
      case refine_3 => (simp only [List.getElem?_toArray, List.getElem?_cons_succ, List.getElem?_cons_zero]; rfl)
      case refine_4 => rfl
      case refine_5 => rfl
      case refine_6 => (intro w' hSw; (try dsimp only at hSw); go_simp; (try with_reducible rfl))
      simp only [Act.put, List.setIfInBounds_toArray, List.set_cons_zero, List.set_cons_succ]
      refine take_one (i := 51) (d := 76) (oi := ?_) (v := ?_) ?_ (by kernel_rfl) (by kernel_rfl) (by kernel_rfl) (fun _ _ _ h => h) ?_ ?_ ?_ (by assumption) ?_
      case refine_3 => (simp only [List.getElem?_toArray, List.getElem?_cons_succ, List.getElem?_cons_zero]; rfl)
      case refine_4 => rfl
      case refine_5 => rfl
      case refine_6 => (intro w' hSw; (try dsimp only at hSw); go_simp; (try with_reducible rfl))
      simp only [Act.put, List.setIfInBounds_toArray, List.set_cons_zero, List.set_cons_succ]
      refine take_one (i := 52) (d := 77) (oi := ?_) (v := ?_) ?_ (by kernel_rfl) (by kernel_rfl) (by kernel_rfl) (fun _ _ _ h => h) ?_ ?_ ?_ (by assumption) ?_
      case refine_3 => (simp only [List.getElem?_toArray, List.getElem?_cons_succ, List.getElem?_cons_zero]; rfl)
      case refine_4 => rfl
      case refine_5 => rfl
      case refine_6 => (intro w' hSw; (try dsimp only at hSw); go_simp; (try with_reducible rfl))
      simp only [Act.put, List.setIfInBounds_toArray, List.set_cons_zero, List.set_cons_succ]
      refine wpAnyH_ready (rs := [47]) (by kernel_rfl) (by simp) ?_
      refine AllReadyH.cons (o := ?_) ?_ (fun K hK => ?_) AllReadyH.nil
      case refine_2 => (simp only [List.getElem?_toArray, List.getElem?_cons_succ, List.getElem?_cons_zero]; rfl)
      go_simp
      (go_at_call 31; (with_reducible refine (HY.out _ (HGK.out _ hO10)).mono ?_); rintro e v11 ⟨rfl, ho⟩; have hO11 : Only (W0.heap.size ≤ ·) W0 v11 := hO10.trans (ho.mono fun k h => Nat.le_trans hO10.size h))
      go_wp2_with (fail)
      refine hK.out _ _ (HKEEP.out _ hO11) (fun hHeld => ?_)
      clear hK K
      try simp only [Act.put, List.setIfInBounds_toArray, List.set_cons_zero, List.set_cons_succ]
      refine wpAnyH_ready (rs := [53]) (by kernel_rfl) (by simp) ?_
      refine AllReadyH.cons (o := ?_) ?_ (fun K hK => ?_) AllReadyH.nil
      case refine_2 => (simp only [List.getElem?_toArray, List.getElem?_cons_succ, List.getElem?_cons_zero]; rfl)
      go_simp
      (go_at_call 32; (with_reducible refine (RY.out _).mono ?_); rintro e v12 ⟨rfl, ho⟩; have hO12 : Only (W0.heap.size ≤ ·) W0 v12 := hO11.trans (ho.mono fun k h => Nat.le_trans hO11.size h))
      go_wp2_with (fail)
      refine hK.out _ _ (HKEEP.out _ hO12) (fun hHeld => ?_)
      clear hK K
      try simp only [Act.put, List.setIfInBounds_toArray, List.set_cons_zero, List.set_cons_succ]
      refine take_one (i := 54) (d := 79) (oi := ?_) (v := ?_) ?_ (by kernel_rfl) (by kernel_rfl) (by kernel_rfl) (fun _ _ _ h => h) ?_ ?_ ?_ (by assumption) ?_
      case refine_3 => (simp only [List.getElem?_toArray, List.getElem?_cons_succ, List.getElem?_cons_zero]; rfl)
      case refine_4 => rfl
      case refine_5 => rfl
      case refine_6 => (intro w' hSw; (try dsimp only at hSw); go_simp; (try with_reducible rfl))
      simp only [Act.put, List.setIfInBounds_toArray, List.set_cons_zero, List.set_cons_succ]
      refine take_one (i := 55) (d := 80) (oi := ?_) (v := ?_) ?_ (by kernel_rfl) (by kernel_rfl) (by kernel_rfl) (fun _ _ _ h => h) ?_ ?_ ?_ (by assumption) ?_
      case refine_3 => (simp only [List.getElem?_toArray, List.getElem?_cons_succ, List.getElem?_cons_zero]; rfl)
      case refine_4 => rfl
      case refine_5 => rfl
      case refine_6 => (intro w' hSw; (try dsimp only at hSw); go_simp; (try with_reducible rfl))
      simp only [Act.put, List.setIfInBounds_toArray, List.set_cons_zero, List.set_cons_succ]
      refine take_one (i := 56) (d := 4) (oi := ?_) (v := ?_) ?_ (by kernel_rfl) (by kernel_rfl) (by kernel_rfl) (fun _ _ _ h => h) ?_ ?_ ?_ (by assumption) ?_
      case refine_3 => (simp only [List.getElem?_toArray, List.getElem?_cons_succ, List.getElem?_cons_zero]; rfl)
      case refine_4 => rfl
      case refine_5 => rfl
      case refine_6 => (intro w' hSw; (try dsimp only at hSw); go_simp; (try with_reducible rfl))
      simp only [Act.put, List.setIfInBounds_toArray, List.set_cons_zero, List.set_cons_succ]
      refine wpAnyH_done (by kernel_rfl) ?_ _
      replace HO := Lib.hid (on_new HO.out hO12)
      clear hHeld
      go_wp2
      go_ret
      exact ⟨rfl, HO.out⟩
  · have HZ' : Hid (z = 0) := by show _ = _; rw [hz', if_neg (fun h => by have := (gen_iff g).1 h; omega)]
    rw [HZ'.out] at HZ
    clear hz' HZ'
    go_enter Tryd.func4, Tryd.ntmps4
    go_wp2_with (first
      | (go_at_call 21; (with_reducible refine (few_c _ _ _ _ _ _ _ _ _ _ HT.out).mono ?_); rintro e w1 ⟨rfl, ho⟩; (replace HG := Lib.hid (HG.out.later ho)); (replace HI := Lib.hid (HI.out.later ho)); (obtain ⟨hi0, hi1, hi2, hi3⟩ := HI.out.four); (replace HO := Lib.hid (on_new HO.out ho)); have HJ := Lib.hid (Blk.new w1 29 [.slice A n c, .slice B m d, .int .i64 s, .int .i64 r]); have ho2 : Only (w1.heap.size ≤ ·) w1 (w1.alloc (.cells #[.slice A n c, .slice B m d, .int .i64 s, .int .i64 r] 29)) := (Only.refl _ w1).alloc (fun _ h => h) _; replace HO := Lib.hid (on_new HO.out ho2); replace HG := Lib.hid (HG.out.later ho2); replace HI := Lib.hid (HI.out.later ho2); clear ho2 ho))
    obtain ⟨bx, hbx⟩ : ∃ bx, bx = w.heap.size := ⟨_, rfl⟩
    obtain ⟨bz, hbz⟩ : ∃ bz, bz = w1.heap.size := ⟨_, rfl⟩
    rw [← hbx] at HI ⊢
    rw [← hbz] at HJ ⊢
    generalize w1.alloc _ = W0 at HI HJ HG HO ⊢
    have HKEEP : Hid (∀ W : World, Only (W0.heap.size ≤ ·) W0 W → Both bx bz A n c B m d s r W) := fun W hW => both_of (HI.out.later hW) (HJ.out.later hW)
    have HGK : Hid (∀ W : World, Only (W0.heap.size ≤ ·) W0 W → Gens W) := fun W hW => HG.out.later hW
    have hO0 : Only (W0.heap.size ≤ ·) W0 W0.drew := (Only.refl _ W0).drew
    clear hbx hbz HI HJ HG
    unfold Both at HKEEP
    refine wp_region_held_drew (S := (fun w' => (w'.cell? ⟨bx, 0, none⟩ = some (.slice A n c) ∧ w'.cell? ⟨bx, 1, none⟩ = some (.slice B m d) ∧ w'.cell? ⟨bx, 2, none⟩ = some (.int .i64 s) ∧ w'.cell? ⟨bx, 3, none⟩ = some (.int .i64 r) ∧ w'.cell? ⟨bx, 0 + 1, none⟩ = some (.slice B m d) ∧ w'.cell? ⟨bx, 0 + 2, none⟩ = some (.int .i64 s) ∧ w'.cell? ⟨bx, 0 + 3, none⟩ = some (.int .i64 r)) ∧ (w'.cell? ⟨bz, 0, none⟩ = some (.slice A n c) ∧ w'.cell? ⟨bz, 1, none⟩ = some (.slice B m d) ∧ w'.cell? ⟨bz, 2, none⟩ = some (.int .i64 s) ∧ w'.cell? ⟨bz, 3, none⟩ = some (.int .i64 r) ∧ w'.cell? ⟨bz, 0 + 1, none⟩ = some (.slice B m d) ∧ w'.cell? ⟨bz, 0 + 2, none⟩ = some (.int .i64 s) ∧ w'.cell? ⟨bz, 0 + 3, none⟩ = some (.int .i64 r)))) (by kernel_rfl) (HKEEP.out _ hO0) (fun hHeld => ?_)
    refine wpAnyH_ready (rs := [0]) (by kernel_rfl) (by simp) ?_
    refine AllReadyH.cons (o := ?_) ?_ (fun K hK => ?_) AllReadyH.nil
    case refine_2 => (simp only [List.getElem?_toArray, List.getElem?_cons_zero]; rfl)
    go_simp
    (go_at_call 9; (with_reducible refine (alive_c _ (HGK.out _ hO0)).mono ?_); rintro e v1 ⟨rfl, ho⟩; have hO1 : Only (W0.heap.size ≤ ·) W0 v1 := hO0.trans (ho.mono fun k h => Nat.le_trans hO0.size h))
    go_wp2_with (fail)
    refine hK.out _ _ (HKEEP.out _ hO1) (fun hHeld => ?_)
    clear hK K
    try simp only [Act.put, List.setIfInBounds_toArray, List.set_cons_zero, List.set_cons_succ]
    refine take_one (i := 1) (d := 26) (oi := ?_) (v := ?_) ?_ (by kernel_rfl) (by kernel_rfl) (by kernel_rfl) (fun _ _ _ h => h) ?_ ?_ ?_ (by assumption) ?_
    case refine_3 => (simp only [List.getElem?_toArray, List.getElem?_cons_succ, List.getElem?_cons_zero]; rfl)
    case refine_4 => rfl
    case refine_5 => rfl
    case refine_6 => (intro w' hSw; (try dsimp only at hSw); go_simp; (try with_reducible rfl))
    simp only [Act.put, List.setIfInBounds_toArray, List.set_cons_zero, List.set_cons_succ]
    refine take_one (i := 2) (d := 27) (oi := ?_) (v := ?_) ?_ (by kernel_rfl) (by kernel_rfl) (by kernel_rfl) (fun _ _ _ h => h) ?_ ?_ ?_ (by assumption) ?_
    case refine_3 => (simp only [List.getElem?_toArray, List.getElem?_cons_succ, List.getElem?_cons_zero]; rfl)
    case refine_4 => rfl
    case refine_5 => rfl
    case refine_6 => (intro w' hSw; (try dsimp only at hSw); go_simp; (try with_reducible rfl))
    simp only [Act.put, List.setIfInBounds_toArray, List.set_cons_zero, List.set_cons_succ]
    refine take_one (i := 3) (d := 28) (oi := ?_) (v := ?_) ?_ (by kernel_rfl) (by kernel_rfl) (by kernel_rfl) (fun _ _ _ h => h) ?_ ?_ ?_ (by assumption) ?_
    case refine_3 => (simp only [List.getElem?_toArray, List.getElem?_cons_succ, List.getElem?_cons_zero]; rfl)
    case refine_4 => rfl
    case refine_5 => rfl
    case refine_6 => (intro w' hSw; (try dsimp only at hSw); go_simp; (try with_reducible rfl))
    simp only [Act.put, List.setIfInBounds_toArray, List.set_cons_zero, List.set_cons_succ]
    refine take_one (i := 5) (d := 30) (oi := ?_) (v := ?_) ?_ (by kernel_rfl) (by kernel_rfl) (by kernel_rfl) (fun _ _ _ h => h) ?_ ?_ ?_ (by assumption) ?_
    case refine_3 => (simp only [List.getElem?_toArray, List.getElem?_cons_succ, List.getElem?_cons_zero]; rfl)
    case refine_4 => rfl
    case refine_5 => rfl
    case refine_6 => (intro w' hSw; (try dsimp only at hSw); go_simp; (try with_reducible rfl))
    simp only [Act.put, List.setIfInBounds_toArray, List.set_cons_zero, List.set_cons_succ]
    refine take_one (i := 6) (d := 31) (oi := ?_) (v := ?_) ?_ (by kernel_rfl) (by kernel_rfl) (by kernel_rfl) (fun _ _ _ h => h) ?_ ?_ ?_ (by assumption) ?_
    case refine_3 => (simp only [List.getElem?_toArray, List.getElem?_cons_succ, List.getElem?_cons_zero]; rfl)
    case refine_4 => rfl
    case refine_5 => rfl
    case refine_6 => (intro w' hSw; (try dsimp only at hSw); go_simp; (try with_reducible rfl))
    simp only [Act.put, List.setIfInBounds_toArray, List.set_cons_zero, List.set_cons_succ]
    refine wpAnyH_ready (rs := [4]) (by kernel_rfl) (by simp) ?_
    refine AllReadyH.cons (o := ?_) ?_ (fun K hK => ?_) AllReadyH.nil
    case refine_2 => (simp only [List.getElem?_toArray, List.getElem?_cons_succ, List.getElem?_cons_zero]; rfl)
    go_simp
    (go_at_call 22; (with_reducible refine (HR.out _ (HGK.out _ hO1)).mono ?_); rintro e v2 ⟨rfl, ho⟩; have hO2 : Only (W0.heap.size ≤ ·) W0 v2 := hO1.trans (ho.mono fun k h => Nat.le_trans hO1.size h))
    go_wp2_with (fail)
    refine hK.out _ _ (HKEEP.out _ hO2) (fun hHeld => ?_)
    clear hK K
    try simp only [Act.put, List.setIfInBounds_toArray, List.set_cons_zero, List.set_cons_succ]
    refine wpAnyH_ready (rs := [7]) (by kernel_rfl) (by simp) ?_
    refine AllReadyH.cons (o := ?_) ?_ (fun K hK => ?_) AllReadyH.nil
    case refine_2 => (simp only [List.getElem?_toArray, List.getElem?_cons_succ, List.getElem?_cons_zero]; rfl)
    go_simp
    (go_at_call 23; (with_reducible refine (RR.out _).mono ?_); rintro e v3 ⟨rfl, ho⟩; have hO3 : Only (W0.heap.size ≤ ·) W0 v3 := hO2.trans (ho.mono fun k h => Nat.le_trans hO2.size h))
    go_wp2_with (fail)
    refine hK.out _ _ (HKEEP.out _ hO3) (fun hHeld => ?_)
    clear hK K
    try simp only [Act.put, List.setIfInBounds_toArray, List.set_cons_zero, List.set_cons_succ]
    refine take_one (i := 8) (d := 33) (oi := ?_) (v := ?_) ?_ (by kernel_rfl) (by kernel_rfl) (by kernel_rfl) (fun _ _ _ h => h) ?_ ?_ ?_ (by assumption) ?_
    case refine_3 => (simp only [List.getElem?_toArray, List.getElem?_cons_succ, List.getElem?_cons_zero]; rfl)
    case refine_4 => rfl
    case refine_5 => rfl
    case refine_6 => (intro w' hSw; (try dsimp only at hSw); go_simp; (try with_reducible rfl))
    simp only [Act.put, List.setIfInBounds_toArray, List.set_cons_zero, List.set_cons_succ]
    refine take_one (i := 9) (d := 34) (oi := ?_) (v := ?_) ?_ (by kernel_rfl) (by kernel_rfl) (by kernel_rfl) (fun _ _ _ h => h) ?_ ?_ ?_ (by assumption) ?_
    case refine_3 => (simp only [List.getElem?_toArray, List.getElem?_cons_succ, List.getElem?_cons_zero]; rfl)
    case refine_4 => rfl
    case refine_5 => rfl
    case refine_6 => (intro w' hSw; (try dsimp only at hSw); go_simp; (try with_reducible rfl))
    simp only [Act.put, List.setIfInBounds_toArray, List.set_cons_zero, List.set_cons_succ]
    refine take_one (i := 10) (d := 35) (oi := ?_) (v := ?_) ?_ (by kernel_rfl) (by kernel_rfl) (by kernel_rfl) (fun _ _ _ h => h) ?_ ?_ ?_ (by assumption) ?_
    case refine_3 => (simp only [List.getElem?_toArray, List.getElem?_cons_succ, List.getElem?_cons_zero]; rfl)
    case refine_4 => rfl
    case refine_5 => rfl
    case refine_6 => (intro w' hSw; (try dsimp only at hSw); go_simp; (try with_reducible rfl))
    simp only [Act.put, List.setIfInBounds_toArray, List.set_cons_zero, List.set_cons_succ]
    refine take_one (i := 11) (d := 36) (oi := ?_) (v := ?_) ?_ (by kernel_rfl) (by kernel_rfl) (by kernel_rfl) (fun _ _ _ h => h) ?_ ?_ ?_ (by assumption) ?_
    case refine_3 => (simp only [List.getElem?_toArray, List.getElem?_cons_succ, List.getElem?_cons_zero]; rfl)
    case refine_4 => rfl
    case refine_5 => rfl
    case refine_6 => (intro w' hSw; (try dsimp only at hSw); go_simp; (try with_reducible rfl))
    simp only [Act.put, List.setIfInBounds_toArray, List.set_cons_zero, List.set_cons_succ]
    refine take_one (i := 13) (d := 38) (oi := ?_) (v := ?_) ?_ (by kernel_rfl) (by kernel_rfl) (by kernel_rfl) (fun _ _ _ h => h) ?_ ?_ ?_ (by assumption) ?_
    case refine_3 => (simp only [List.getElem?_toArray, List.getElem?_cons_succ, List.getElem?_cons_zero]; rfl)
    case refine_4 => rfl
    case refine_5 => rfl
    case refine_6 => (intro w' hSw; (try dsimp only at hSw); go_simp; (try with_reducible rfl))
    simp only [Act.put, List.setIfInBounds_toArray, List.set_cons_zero, List.set_cons_succ]
    refine wpAnyH_ready (rs := [12]) (by kernel_rfl) (by simp) ?_
    refine AllReadyH.cons (o := ?_) ?_ (fun K hK => ?_) AllReadyH.nil
    case refine_2 => (simp only [List.getElem?_toArray, List.getElem?_cons_succ, List.getElem?_cons_zero]; rfl)
    go_simp
    (go_at_call 24; (with_reducible refine (HF.out _).mono ?_); rintro e v4 ⟨rfl, ho⟩; have hO4 : Only (W0.heap.size ≤ ·) W0 v4 := hO3.trans (ho.mono fun k h => Nat.le_trans hO3.size h))
    go_wp2_with (fail)
    refine hK.out _ _ (HKEEP.out _ hO4) (fun hHeld => ?_)
    clear hK K
    try simp only [Act.put, List.setIfInBounds_toArray, List.set_cons_zero, List.set_cons_succ]
    refine wpAnyH_ready (rs := [14]) (by kernel_rfl) (by simp) ?_
    refine AllReadyH.cons (o := ?_) ?_ (fun K hK => ?_) AllReadyH.nil
    case refine_2 => (simp only [List.getElem?_toArray, List.getElem?_cons_succ, List.getElem?_cons_zero]; rfl)
    go_simp
    (go_at_call 25; (with_reducible refine (RF.out _).mono ?_); rintro e v5 ⟨rfl, ho⟩; have hO5 : Only (W0.heap.size ≤ ·) W0 v5 := hO4.trans (ho.mono fun k h => Nat.le_trans hO4.size h))
    go_wp2_with (fail)
    refine hK.out _ _ (HKEEP.out _ hO5) (fun hHeld => ?_)
    clear hK K
    try simp only [Act.put, List.setIfInBounds_toArray, List.set_cons_zero, List.set_cons_succ]
    refine take_one (i := 15) (d := 40) (oi := ?_) (v := ?_) ?_ (by kernel_rfl) (by kernel_rfl) (by kernel_rfl) (fun _ _ _ h => h) ?_ ?_ ?_ (by assumption) ?_
    case refine_3 => (simp only [List.getElem?_toArray, List.getElem?_cons_succ, List.getElem?_cons_zero]; rfl)
    case refine_4 => rfl
    case refine_5 => rfl
    case refine_6 => (intro w' hSw; (try dsimp only at hSw); go_simp; (try with_reducible rfl))
    simp only [Act.put, List.setIfInBounds_toArray, List.set_cons_zero, List.set_cons_succ]
    refine take_one (i := 16) (d := 41) (oi := ?_) (v := ?_) ?_ (by kernel_rfl) (by kernel_rfl) (by kernel_rfl) (fun _ _ _ h => h) ?_ ?_ ?_ (by assumption) ?_
    case refine_3 => (simp only [List.getElem?_toArray, List.getElem?_cons_succ, List.getElem?_cons_zero]; rfl)
    case refine_4 => rfl
    case refine_5 => rfl
    case refine_6 => (intro w' hSw; (try dsimp only at hSw); go_simp; (try with_reducible rfl))
    simp only [Act.put, List.setIfInBounds_toArray, List.set_cons_zero, List.set_cons_succ]
    refine take_one (i := 17) (d := 42) (oi := ?_) (v := ?_) ?_ (by kernel_rfl) (by kernel_rfl) (by kernel_rfl) (fun _ _ _ h => h) ?_ ?_ ?_ (by assumption) ?_
    case refine_3 => (simp only [List.getElem?_toArray, List.getElem?_cons_succ, List.getElem?_cons_zero]; rfl)
    case refine_4 => rfl
    case refine_5 => rfl
    case refine_6 => (intro w' hSw; (try dsimp only at hSw); go_simp; (try with_reducible rfl))
    simp only [Act.put, List.setIfInBounds_toArray, List.set_cons_zero, List.set_cons_succ]
    refine take_one (i := 18) (d := 43) (oi := ?_) (v := ?_) ?_ (by kernel_rfl) (by kernel_rfl) (by kernel_rfl) (fun _ _ _ h => h) ?_ ?_ ?_ (by assumption) ?_
    case refine_3 => (simp only [List.getElem?_toArray, List.getElem?_cons_succ, List.getElem?_cons_zero]; rfl)
    case refine_4 => rfl
    case refine_5 => rfl
    case refine_6 => (intro w' hSw; (try dsimp only at hSw); go_simp; (try with_reducible rfl))
    simp only [Act.put, List.setIfInBounds_toArray, List.set_cons_zero, List.set_cons_succ]
    refine take_one (i := 20) (d := 45) (oi := ?_) (v := ?_) ?_ (by kernel_rfl) (by kernel_rfl) (by kernel_rfl) (fun _ _ _ h => h) ?_ ?_ ?_ (by assumption) ?_
    case refine_3 => (simp only [List.getElem?_toArray, List.getElem?_cons_succ, List.getElem?_cons_zero]; rfl)
    case refine_4 => rfl
    case refine_5 => rfl
    case refine_6 => (intro w' hSw; (try dsimp only at hSw); go_simp; (try with_reducible rfl))
    simp only [Act.put, List.setIfInBounds_toArray, List.set_cons_zero, List.set_cons_succ]
    refine wpAnyH_ready (rs := [19]) (by kernel_rfl) (by simp) ?_
    refine AllReadyH.cons (o := ?_) ?_ (fun K hK => ?_) AllReadyH.nil
    case refine_2 => (simp only [List.getElem?_toArray, List.getElem?_cons_succ, List.getElem?_cons_zero]; rfl)
    go_simp
    (go_at_call 26; (with_reducible refine (HL.out _).mono ?_); rintro e v6 ⟨rfl, ho⟩; have hO6 : Only (W0.heap.size ≤ ·) W0 v6 := hO5.trans (ho.mono fun k h => Nat.le_trans hO5.size h))
    go_wp2_with (fail)
    refine hK.out _ _ (HKEEP.out _ hO6) (fun hHeld => ?_)
    clear hK K
    try simp only [Act.put, List.setIfInBounds_toArray, List.set_cons_zero, List.set_cons_succ]
    refine wpAnyH_ready (rs := [21]) (by kernel_rfl) (by simp) ?_
    refine AllReadyH.cons (o := ?_) ?_ (fun K hK => ?_) AllReadyH.nil
    case refine_2 => (simp only [List.getElem?_toArray, List.getElem?_cons_succ, List.getElem?_cons_zero]; rfl)
    go_simp
    (go_at_call 27; (with_reducible refine (RL.out _).mono ?_); rintro e v7 ⟨rfl, ho⟩; have hO7 : Only (W0.heap.size ≤ ·) W0 v7 := hO6.trans (ho.mono fun k h => Nat.le_trans hO6.size h))
    go_wp2_with (fail)
    refine hK.out _ _ (HKEEP.out _ hO7) (fun hHeld => ?_)
    clear hK K
    try simp only [Act.put, List.setIfInBounds_toArray, List.set_cons_zero, List.set_cons_succ]
    refine take_one (i := 22) (d := 47) (oi := ?_) (v := ?_) ?_ (by kernel_rfl) (by kernel_rfl) (by kernel_rfl) (fun _ _ _ h => h) ?_ ?_ ?_ (by assumption) ?_
    case refine_3 => (simp only [List.getElem?_toArray, List.getElem?_cons_succ, List.getElem?_cons_zero]; rfl)
    case refine_4 => rfl
    case refine_5 => rfl
    case refine_6 => (intro w' hSw; (try dsimp only at hSw); go_simp; (try with_reducible rfl))
    simp only [Act.put, List.setIfInBounds_toArray, List.set_cons_zero, List.set_cons_succ]
    refine take_one (i := 23) (d := 48) (oi := ?_) (v := ?_) ?_ (by kernel_rfl) (by kernel_rfl) (by kernel_rfl) (fun _ _ _ h => h) ?_ ?_ ?_ (by assumption) ?_
    case refine_3 => (simp only [List.getElem?_toArray, List.getElem?_cons_succ, List.getElem?_cons_zero]; rfl)
    case refine_4 => rfl
    case refine_5 => rfl
    case refine_6 => (intro w' hSw; (try dsimp only at hSw); go_simp; (try with_reducible rfl))
    simp only [Act.put, List.setIfInBounds_toArray, List.set_cons_zero, List.set_cons_succ]
    refine take_one (i := 24) (d := 49) (oi := ?_) (v := ?_) ?_ (by kernel_rfl) (by kernel_rfl) (by kernel_rfl) (fun _ _ _ h => h) ?_ ?_ ?_ (by assumption) ?_
    case refine_3 => (simp only [List.getElem?_toArray, List.getElem?_cons_succ, List.getElem?_cons_zero]; rfl)
    case refine_4 => rfl
    case refine_5 => rfl
    case refine_6 => (intro w' hSw; (try dsimp only at hSw); go_simp; (try with_reducible rfl))
    simp only [Act.put, List.setIfInBounds_toArray, List.set_cons_zero, List.set_cons_succ]
    refine take_one (i := 25) (d := 50) (oi := ?_) (v := ?_) ?_ (by kernel_rfl) (by kernel_rfl) (by kernel_rfl) (fun _ _ _ h => h) ?_ ?_ ?_ (by assumption) ?_
    case refine_3 => (simp only [List.getElem?_toArray, List.getElem?_cons_succ, List.getElem?_cons_zero]; rfl)
    case refine_4 => rfl
    case refine_5 => rfl
    case refine_6 => (intro w' hSw; (try dsimp only at hSw); go_simp; (try with_reducible rfl))
    simp only [Act.put, List.setIfInBounds_toArray, List.set_cons_zero, List.set_cons_succ]
    refine take_one (i := 26) (d := 51) (oi := ?_) (v := ?_) ?_ (by kernel_rfl) (by kernel_rfl) (by kernel_rfl) (fun _ _ _ h => h) ?_ ?_ ?_ (by assumption) ?_
    case refine_3 => (simp only [List.getElem?_toArray, List.getElem?_cons_succ, List.getElem?_cons_zero]; rfl)
    case refine_4 => rfl
    case refine_5 => rfl
    case refine_6 => (intro w' hSw; (try dsimp only at hSw); go_simp; (try with_reducible rfl))
    simp only [Act.put, List.setIfInBounds_toArray, List.set_cons_zero, List.set_cons_succ]
    refine take_one (i := 28) (d := 53) (oi := ?_) (v := ?_) ?_ (by kernel_rfl) (by kernel_rfl) (by kernel_rfl) (fun _ _ _ h => h) ?_ ?_ ?_ (by assumption) ?_
    case refine_3 => (simp only [List.getElem?_toArray, List.getElem?_cons_succ, List.getElem?_cons_zero]; rfl)
    case refine_4 => rfl
    case refine_5 => rfl
    case refine_6 => (intro w' hSw; (try dsimp only at hSw); go_simp; (try with_reducible rfl))
    simp only [Act.put, List.setIfInBounds_toArray, List.set_cons_zero, List.set_cons_succ]
    refine take_one (i := 29) (d := 54) (oi := ?_) (v := ?_) ?_ (by kernel_rfl) (by kernel_rfl) (by kernel_rfl) (fun _ _ _ h => h) ?_ ?_ ?_ (by assumption) ?_
    case refine_3 => (simp only [List.getElem?_toArray, List.getElem?_cons_succ, List.getElem?_cons_zero]; rfl)
    case refine_4 => rfl
    case refine_5 => rfl
    case refine_6 => (intro w' hSw; (try dsimp only at hSw); go_simp; (try with_reducible rfl))
    simp only [Act.put, List.setIfInBounds_toArray, List.set_cons_zero, List.set_cons_succ]
    refine wpAnyH_ready (rs := [27]) (by kernel_rfl) (by simp) ?_
    refine AllReadyH.cons (o := ?_) ?_ (fun K hK => ?_) AllReadyH.nil
    case refine_2 => (simp only [List.getElem?_toArray, List.getElem?_cons_succ, List.getElem?_cons_zero]; rfl)
    go_simp
    (go_at_call 28; (with_reducible refine (HM.out _ (HGK.out _ hO7)).mono ?_); rintro e v8 ⟨rfl, ho⟩; have hO8 : Only (W0.heap.size ≤ ·) W0 v8 := hO7.trans (ho.mono fun k h => Nat.le_trans hO7.size h))
    go_wp2_with (fail)
    refine hK.out _ _ (HKEEP.out _ hO8) (fun hHeld => ?_)
    clear hK K
    try simp only [Act.put, List.setIfInBounds_toArray, List.set_cons_zero, List.set_cons_succ]
    refine wpAnyH_ready (rs := [30]) (by kernel_rfl) (by simp) ?_
    refine AllReadyH.cons (o := ?_) ?_ (fun K hK => ?_) AllReadyH.nil
    case refine_2 => (simp only [List.getElem?_toArray, List.getElem?_cons_succ, List.getElem?_cons_zero]; rfl)
    go_simp
    (go_at_call 29; (with_reducible refine (RM.out _).mono ?_); rintro e v9 ⟨rfl, ho⟩; have hO9 : Only (W0.heap.size ≤ ·) W0 v9 := hO8.trans (ho.mono fun k h => Nat.le_trans hO8.size h))
    go_wp2_with (fail)
    refine hK.out _ _ (HKEEP.out _ hO9) (fun hHeld => ?_)
    clear hK K
    try simp only [Act.put, List.setIfInBounds_toArray, List.set_cons_zero, List.set_cons_succ]
    refine take_one (i := 31) (d := 56) (oi := ?_) (v := ?_) ?_ (by kernel_rfl) (by kernel_rfl) (by kernel_rfl) (fun _ _ _ h => h) ?_ ?_ ?_ (by assumption) ?_
    case refine_3 => (simp only [List.getElem?_toArray, List.getElem?_cons_succ, List.getElem?_cons_zero]; rfl)
    case refine_4 => rfl
    case refine_5 => rfl
    case refine_6 => (intro w' hSw; (try dsimp only at hSw); go_simp; (try with_reducible rfl))
    simp only [Act.put, List.setIfInBounds_toArray, List.set_cons_zero, List.set_cons_succ]
    refine take_one (i := 32) (d := 57) (oi := ?_) (v := ?_) ?_ (by kernel_rfl) (by kernel_rfl) (by kernel_rfl) (fun _ _ _ h => h) ?_ ?_ ?_ (by assumption) ?_
    case refine_3 => (simp only [List.getElem?_toArray, List.getElem?_cons_succ, List.getElem?_cons_zero]; rfl)
    case refine_4 => rfl
    case refine_5 => rfl
    case refine_6 => (intro w' hSw; (try dsimp only at hSw); go_simp; (try with_reducible rfl))
    simp only [Act.put, List.setIfInBounds_toArray, List.set_cons_zero, List.set_cons_succ]
    refine take_one (i := 33) (d := 58) (oi := ?_) (v := ?_) ?_ (by kernel_rfl) (by kernel_rfl) (by kernel_rfl) (fun _ _ _ h => h) ?_ ?_ ?_ (by assumption) ?_
    case refine_3 => (simp only [List.getElem?_toArray, List.getElem?_cons_succ, List.getElem?_cons_zero]; rfl)
    case refine_4 => rfl
    case refine_5 => rfl
    case refine_6 => (intro w' hSw; (try dsimp only at hSw); go_simp; (try with_reducible rfl))
    simp only [Act.put, List.setIfInBounds_toArray, List.set_cons_zero, List.set_cons_succ]
    refine take_one (i := 34) (d := 59) (oi := ?_) (v := ?_) ?_ (by kernel_rfl) (by kernel_rfl) (by kernel_rfl) (fun _ _ _ h => h) ?_ ?_ ?_ (by assumption) ?_
    case refine_3 => (simp only [List.getElem?_toArray, List.getElem?_cons_succ, List.getElem?_cons_zero]; rfl)
    case refine_4 => rfl
    case refine_5 => rfl
    case refine_6 => (intro w' hSw; (try dsimp only at hSw); go_simp; (try with_reducible rfl))
    simp only [Act.put, List.setIfInBounds_toArray, List.set_cons_zero, List.set_cons_succ]
    refine take_one (i := 35) (d := 60) (oi := ?_) (v := ?_) ?_ (by kernel_rfl) (by kernel_rfl) (by kernel_rfl) (fun _ _ _ h => h) ?_ ?_ ?_ (by assumption) ?_
    case refine_3 => (simp only [List.getElem?_toArray, List.getElem?_cons_succ, List.getElem?_cons_zero]; rfl)
    case refine_4 => rfl
    case refine_5 => rfl
    case refine_6 => (intro w' hSw; (try dsimp only at hSw); go_simp; (try with_reducible rfl))
    simp only [Act.put, List.setIfInBounds_toArray, List.set_cons_zero, List.set_cons_succ]
    refine take_one (i := 36) (d := 61) (oi := ?_) (v := ?_) ?_ (by kernel_rfl) (by kernel_rfl) (by kernel_rfl) (fun _ _ _ h => h) ?_ ?_ ?_ (by assumption) ?_
    case refine_3 => (simp only [List.getElem?_toArray, List.getElem?_cons_succ, List.getElem?_cons_zero]; rfl)
    case refine_4 => rfl
    case refine_5 => rfl
    case refine_6 => (intro w' hSw; (try dsimp only at hSw); go_simp; (try with_reducible rfl))
    simp only [Act.put, List.setIfInBounds_toArray, List.set_cons_zero, List.set_cons_succ]
    refine take_one (i := 38) (d := 63) (oi := ?_) (v := ?_) ?_ (by kernel_rfl) (by kernel_rfl) (by kernel_rfl) (fun _ _ _ h => h) ?_ ?_ ?_ (by assumption) ?_
    case refine_3 => (simp only [List.getElem?_toArray, List.getElem?_cons_succ, List.getElem?_cons_zero]; rfl)
    case refine_4 => rfl
    case refine_5 => rfl
    case refine_6 => (intro w' hSw; (try dsimp only at hSw); go_simp; (try with_reducible rfl))
    simp only [Act.put, List.setIfInBounds_toArray, List.set_cons_zero, List.set_cons_succ]
    refine wpAnyH_ready (rs := [37]) (by kernel_rfl) (by simp) ?_
    refine AllReadyH.cons (o := ?_) ?_ (fun K hK => ?_) AllReadyH.nil
    case refine_2 => (simp only [List.getElem?_toArray, List.getElem?_cons_succ, List.getElem?_cons_zero]; rfl)
    go_simp
    (go_at_call 30; (with_reducible refine (HZ.out _ (HGK.out _ hO9)).mono ?_); rintro e v10 ⟨rfl, ho⟩; have hO10 : Only (W0.heap.size ≤ ·) W0 v10 := hO9.trans (ho.mono fun k h => Nat.le_trans hO9.size h))
    go_wp2_with (fail)
    refine hK.out _ _ (HKEEP.out _ hO10) (fun hHeld => ?_)
    clear hK K
    try simp only [Act.put, List.setIfInBounds_toArray, List.set_cons_zero, List.set_cons_succ]
    refine take_one (i := 39) (d := 64) (oi := ?_) (v := ?_) ?_ (by kernel_rfl) (by kernel_rfl) (by kernel_rfl) (fun _ _ _ h => h) ?_ ?_ ?_ (by assumption) ?_
    case refine_3 => (simp only [List.getElem?_toArray, List.getElem?_cons_succ, List.getElem?_cons_zero]; rfl)
    case refine_4 => rfl
    case refine_5 => rfl
    case refine_6 => (intro w' hSw; (try dsimp only at hSw); go_simp; (try with_reducible rfl))
    simp only [Act.put, List.setIfInBounds_toArray, List.set_cons_zero, List.set_cons_succ]
    refine take_one (i := 40) (d := 65) (oi := ?_) (v := ?_) ?_ (by kernel_rfl) (by kernel_rfl) (by kernel_rfl) (fun _ _ _ h => h) ?_ ?_ ?_ (by assumption) ?_
    case refine_3 => (simp only [List.getElem?_toArray, List.getElem?_cons_succ, List.getElem?_cons_zero]; rfl)
    case refine_4 => rfl
    case refine_5 => rfl
    case refine_6 => (intro w' hSw; (try dsimp only at hSw); go_simp; (try with_reducible rfl))
    simp only [Act.put, List.setIfInBounds_toArray, List.set_cons_zero, List.set_cons_succ]
    refine take_one (i := 41) (d := 66) (oi := ?_) (v := ?_) ?_ (by kernel_rfl) (by kernel_rfl) (by kernel_rfl) (fun _ _ _ h => h) ?_ ?_ ?_ (by assumption) ?_
    case refine_3 => (simp only [List.getElem?_toArray, List.getElem?_cons_succ, List.getElem?_cons_zero]; rfl)
    case refine_4 => rfl
    case refine_5 => rfl
    case refine_6 => (intro w' hSw; (try dsimp only at hSw); go_simp; (try with_reducible rfl))
    simp only [Act.put, List.setIfInBounds_toArray, List.set_cons_zero, List.set_cons_succ]
    refine take_one (i := 42) (d := 67) (oi := ?_) (v := ?_) ?_ (by kernel_rfl) (by kernel_rfl) (by kernel_rfl) (fun _ _ _ h => h) ?_ ?_ ?_ (by assumption) ?_
    case refine_3 => (simp only [List.getElem?_toArray, List.getElem?_cons_succ, List.getElem?_cons_zero]; rfl)
    case refine_4 => rfl
    case refine_5 => rfl
    case refine_6 => (intro w' hSw; (try dsimp only at hSw); go_simp; (try with_reducible rfl))
    simp only [Act.put, List.setIfInBounds_toArray, List.set_cons_zero, List.set_cons_succ]
    refine take_one (i := 43) (d := 68) (oi := ?_) (v := ?_) ?_ (by kernel_rfl) (by kernel_rfl) (by kernel_rfl) (fun _ _ _ h => h) ?_ ?_ ?_ (by assumption) ?_
    case refine_3 => (simp only [List.getElem?_toArray, List.getElem?_cons_succ, List.getElem?_cons_zero]; rfl)
    case refine_4 => rfl
    case refine_5 => rfl
    case refine_6 => (intro w' hSw; (try dsimp only at hSw); go_simp; (try with_reducible rfl))
    simp only [Act.put, List.setIfInBounds_toArray, List.set_cons_zero, List.set_cons_succ]
    refine take_one (i := 44) (d := 69) (oi := ?_) (v := ?_) ?_ (by kernel_rfl) (by kernel_rfl) (by kernel_rfl) (fun _ _ _ h => h) ?_ ?_ ?_ (by assumption) ?_
    case refine_3 => (simp only [List.getElem?_toArray, List.getElem?_cons_succ, List.getElem?_cons_zero]; rfl)
    case refine_4 => rfl
    case refine_5 => rfl
    case refine_6 => (intro w' hSw; (try dsimp only at hSw); go_simp; (try with_reducible rfl))
    simp only [Act.put, List.setIfInBounds_toArray, List.set_cons_zero, List.set_cons_succ]
    refine take_one (i := 45) (d := 70) (oi := ?_) (v := ?_) ?_ (by kernel_rfl) (by kernel_rfl) (by kernel_rfl) (fun _ _ _ h => h) ?_ ?_ ?_ (by assumption) ?_
    case refine_3 => (simp only [List.getElem?_toArray, List.getElem?_cons_succ, List.getElem?_cons_zero]; rfl)
    case refine_4 => rfl
    case refine_5 => rfl
    case refine_6 => (intro w' hSw; (try dsimp only at hSw); go_simp; (try with_reducible rfl))
    simp only [Act.put, List.setIfInBounds_toArray, List.set_cons_zero, List.set_cons_succ]
    refine take_one (i := 46) (d := 71) (oi := ?_) (v := ?_) ?_ (by kernel_rfl) (by kernel_rfl) (by kernel_rfl) (fun _ _ _ h => h) ?_ ?_ ?_ (by assumption) ?_
    case refine_3 => (simp only [List.getElem?_toArray, List.getElem?_cons_succ, List.getElem?_cons_zero]; rfl)
    case refine_4 => rfl
    case refine_5 => rfl
    case refine_6 => (intro w' hSw; (try dsimp only at hSw); go_simp; (try with_reducible rfl))
    simp only [Act.put, List.setIfInBounds_toArray, List.set_cons_zero, List.set_cons_succ]
    refine take_one (i := 48) (d := 73) (oi := ?_) (v := ?_) ?_ (by kernel_rfl) (by kernel_rfl) (by kernel_rfl) (fun _ _ _ h => h) ?_ ?_ ?_ (by assumption) ?_
    case refine_3 => (simp only [List.getElem?_toArray, List.getElem?_cons_succ, List.getElem?_cons_zero]; rfl)
    case refine_4 => rfl
    case refine_5 => rfl
    case refine_6 => (intro w' hSw; (try dsimp only at hSw); go_simp; (try with_reducible rfl))
    simp only [Act.put, List.setIfInBounds_toArray, List.set_cons_zero, List.set_cons_succ]
    refine take_one (i := 49) (d := 74) (oi := ?_) (v := ?_) ?_ (by kernel_rfl) (by kernel_rfl) (by kernel_rfl) (fun _ _ _ h => h) ?_ ?_ ?_ (by assumption) ?_
    case refine_3 => (simp only [List.getElem?_toArray, List.getElem?_cons_succ, List.getElem?_cons_zero]; rfl)
    case refine_4 => rfl
    case refine_5 => rfl
    case refine_6 => (intro w' hSw; (try dsimp only at hSw); go_simp; (try with_reducible rfl))
    simp only [Act.put, List.setIfInBounds_toArray, List.set_cons_zero, List.set_cons_succ]
    refine take_one (i := 50) (d := 75) (oi := ?_) (v := ?_) ?_ (by kernel_rfl) (by kernel_rfl) (by kernel_rfl) (fun _ _ _ h => h) ?_ ?_ ?_ (by assumption) ?_
    case refine_3 => (simp only [List.getElem?_toArray, List.getElem?_cons_succ, List.getElem?_cons_zero]; rfl)
    case refine_4 => rfl
    case refine_5 => rfl
    case refine_6 => (intro w' hSw; (try dsimp only at hSw); go_simp; (try with_reducible rfl))
    simp only [Act.put, List.setIfInBounds_toArray, List.set_cons_zero, List.set_cons_succ]
    refine take_one (i := 51) (d := 76) (oi := ?_) (v := ?_) ?_ (by kernel_rfl) (by kernel_rfl) (by kernel_rfl) (fun _ _ _ h => h) ?_ ?_ ?_ (by assumption) ?_
    case refine_3 => (simp only [List.getElem?_toArray, List.getElem?_cons_succ, List.getElem?_cons_zero]; rfl)
    case refine_4 => rfl
    case refine_5 => rfl
    case refine_6 => (intro w' hSw; (try dsimp only at hSw); go_simp; (try with_reducible rfl))
    simp only [Act.put, List.setIfInBounds_toArray, List.set_cons_zero, List.set_cons_succ]
    refine take_one (i := 52) (d := 77) (oi := ?_) (v := ?_) ?_ (by kernel_rfl) (by kernel_rfl) (by kernel_rfl) (fun _ _ _ h => h) ?_ ?_ ?_ (by assumption) ?_
    case refine_3 => (simp only [List.getElem?_toArray, List.getElem?_cons_succ, List.getElem?_cons_zero]; rfl)
    case refine_4 => rfl
    case refine_5 => rfl
    case refine_6 => (intro w' hSw; (try dsimp only at hSw); go_simp; (try with_reducible rfl))
    simp only [Act.put, List.setIfInBounds_toArray, List.set_cons_zero, List.set_cons_succ]
    refine wpAnyH_ready (rs := [47]) (by kernel_rfl) (by simp) ?_
    refine AllReadyH.cons (o := ?_) ?_ (fun K hK => ?_) AllReadyH.nil
    case refine_2 => (simp only [List.getElem?_toArray, List.getElem?_cons_succ, List.getElem?_cons_zero]; rfl)
    go_simp
    (go_at_call 31; (with_reducible refine (HY.out _ (HGK.out _ hO10)).mono ?_); rintro e v11 ⟨rfl, ho⟩; have hO11 : Only (W0.heap.size ≤ ·) W0 v11 := hO10.trans (ho.mono fun k h => Nat.le_trans hO10.size h))
    go_wp2_with (fail)
    refine hK.out _ _ (HKEEP.out _ hO11) (fun hHeld => ?_)
    clear hK K
    try simp only [Act.put, List.setIfInBounds_toArray, List.set_cons_zero, List.set_cons_succ]
    refine wpAnyH_ready (rs := [53]) (by kernel_rfl) (by simp) ?_
    refine AllReadyH.cons (o := ?_) ?_ (fun K hK => ?_) AllReadyH.nil
    case refine_2 => (simp only [List.getElem?_toArray, List.getElem?_cons_succ, List.getElem?_cons_zero]; rfl)
    go_simp
    (go_at_call 32; (with_reducible refine (RY.out _).mono ?_); rintro e v12 ⟨rfl, ho⟩; have hO12 : Only (W0.heap.size ≤ ·) W0 v12 := hO11.trans (ho.mono fun k h => Nat.le_trans hO11.size h))
    go_wp2_with (fail)
    refine hK.out _ _ (HKEEP.out _ hO12) (fun hHeld => ?_)
    clear hK K
    try simp only [Act.put, List.setIfInBounds_toArray, List.set_cons_zero, List.set_cons_succ]
    refine take_one (i := 54) (d := 79) (oi := ?_) (v := ?_) ?_ (by kernel_rfl) (by kernel_rfl) (by kernel_rfl) (fun _ _ _ h => h) ?_ ?_ ?_ (by assumption) ?_
    case refine_3 => (simp only [List.getElem?_toArray, List.getElem?_cons_succ, List.getElem?_cons_zero]; rfl)
    case refine_4 => rfl
    case refine_5 => rfl
    case refine_6 => (intro w' hSw; (try dsimp only at hSw); go_simp; (try with_reducible rfl))
    simp only [Act.put, List.setIfInBounds_toArray, List.set_cons_zero, List.set_cons_succ]
    refine take_one (i := 55) (d := 80) (oi := ?_) (v := ?_) ?_ (by kernel_rfl) (by kernel_rfl) (by kernel_rfl) (fun _ _ _ h => h) ?_ ?_ ?_ (by assumption) ?_
    case refine_3 => (simp only [List.getElem?_toArray, List.getElem?_cons_succ, List.getElem?_cons_zero]; rfl)
    case refine_4 => rfl
    case refine_5 => rfl
    case refine_6 => (intro w' hSw; (try dsimp only at hSw); go_simp; (try with_reducible rfl))
    simp only [Act.put, List.setIfInBounds_toArray, List.set_cons_zero, List.set_cons_succ]
    refine take_one (i := 56) (d := 4) (oi := ?_) (v := ?_) ?_ (by kernel_rfl) (by kernel_rfl) (by kernel_rfl) (fun _ _ _ h => h) ?_ ?_ ?_ (by assumption) ?_
    case refine_3 => (simp only [List.getElem?_toArray, List.getElem?_cons_succ, List.getElem?_cons_zero]; rfl)
    case refine_4 => rfl
    case refine_5 => rfl
    case refine_6 => (intro w' hSw; (try dsimp only at hSw); go_simp; (try with_reducible rfl))
    simp only [Act.put, List.setIfInBounds_toArray, List.set_cons_zero, List.set_cons_succ]
    refine wpAnyH_done (by kernel_rfl) ?_ _
    replace HO := Lib.hid (on_new HO.out hO12)
    clear hHeld
    go_wp2
    go_ret
    exact ⟨rfl, HO.out⟩
end Go.Proofs.YtkhimppgpdaiaaaDoor
