/-
  Parts of the document.
-/
import Derived.Test.YtjbbljnfgpggkaaDoorDpl
import Derived.Deep.CutRange
set_option linter.unusedVariables false
namespace Go.Proofs.YtjbbljnfgpggkaaDoor
open Go.RowKit

theorem dparts_one {w W1 : World} {F : Nat → Prop} {g : Int} {ks : Bytes} {x : Nd} {P : Option Addr} {p : Nat} {f : Bool} {vi vk : Value} (hO : Only (w.heap.size ≤ ·) w W1) (hF : ∀ k, F k → k < w.heap.size) (hnod : SNod F w x f vi vk) (hkey : Stab F w (fun W => Src W (.slice P ks.length p) ks)) (hc : nfit g x = true ∨ many x < 2) :
    DPieces F w g ks x (.returned (.slice (some ⟨W1.heap.size, 0, none⟩) 1 1)) (W1.alloc (.cells #[.slice P ks.length p, .bool f, vi, vk] 44)) := by
  have hO2 : Only (w.heap.size ≤ ·) w (W1.alloc (.cells #[.slice P ks.length p, .bool f, vi, vk] 44)) := hO.alloc (fun _ h => h) _
  refine ⟨some ⟨W1.heap.size, 0, none⟩, 1, 1, [(ks, x)], [.slice P ks.length p, .bool f, vi, vk], rfl, Cuts.one _ _ hc, rfl, World.ownsRow_lit W1 #[.slice P ks.length p, .bool f, vi, vk] 1 hO.size (by simp [maxLen]) rfl, fun W hW => ?_, hO2⟩
  have hW0 : Only (fun k => F k ∨ w.heap.size ≤ k) w W := (hO2.mono fun _ h => .inr h).trans (hW.mono fun k hk => by
    rcases hk with (hk | hk) | hk
    · exact .inl hk
    · have := hO.size
      cases hk
      exact .inr this
    · exact .inr (Nat.le_trans hO2.size hk))
  exact Den.single ⟨P, p, f, vi, vk, rfl, hkey W hW0, hnod.nod W hW0⟩
theorem f_two {w v1 v2 : World} {F : Nat → Prop} {v : Value} {n : Nat} {C : List Value} (hF : ∀ k, F k → k < w.heap.size) (hO : Only (w.heap.size ≤ ·) w v1) (ho : v2.ownsRow v1.heap.size 44 4 v n C) (hO2 : Only (v1.heap.size ≤ ·) v1 v2) :
    (∀ k, (F k ∨ v.ownBlock = some k) → k < v2.heap.size) ∧ (∀ k, (F k ∨ v.ownBlock = some k) → F k ∨ w.heap.size ≤ k) := by
  have h := World.ownsRow.lt ho
  have h1 := hO.size
  have h2 := hO2.size
  refine ⟨fun k hk => ?_, fun k hk => ?_⟩
  · rcases hk with hk | hk
    · have := hF k hk
      omega
    · exact (h k hk).2
  · rcases hk with hk | hk
    · exact .inl hk
    · exact .inr (Nat.le_trans h1 (h k hk).1)
theorem row_cells {w : World} {B n c : Nat} {A : Option Addr} {C : List Value} {l : List Pt} (h : w.ownsRow B 44 4 (.slice A n c) n C) (hd : Den (ptE.At w) l C) (hn : n = l.length) (hl : 0 < l.length) :
    ∃ g, A = some ⟨g, 0, none⟩ ∧ (∀ j u, C[j]? = some u → w.cell? ((⟨g, 0, none⟩ : Addr).add j) = some u) ∧ (∀ u ∈ C, u.oneCell' = true) := by
  obtain ⟨g, p, e, hg⟩ := own_form h (by omega)
  simp only [Value.slice.injEq, true_and] at e
  obtain ⟨rfl, rfl⟩ := e
  exact ⟨g, rfl, h.cells (g := g) rfl, Den.one (fun _ _ => ptE.one) hd⟩

set_option maxRecDepth 100000 in
set_option maxHeartbeats 25600000 in
theorem DParts_c (g : Int) : ∀ (N : Nat) (w : World) (F : Nat → Prop) (f : Bool) (P A B : Option Addr) (q p n c m d : Nat) (ks : Bytes) (x : Nd), many x ≤ N → Small x → (∀ k, F k → k < w.heap.size) → SNod F w x f (.slice A n c) (.slice B m d) → q = ks.length → Stab F w (fun W => Src W (.slice P q p) ks) →
    Calls Tryd.prog 10 #[.int .i64 g, .slice P q p, .agg #[.bool f, .slice A n c, .slice B m d]] w (DPieces F w g ks x) := by
  intro N
  induction N using Nat.strongRecOn with
  | _ N ih =>
  intro w F f P A B q p n c m d ks x hN hs hF hnod hq hkey
  obtain ⟨i0', hi0, hz0, hz1, hz2⟩ := info_parts info_RP
  have HIP := Lib.hid (And.intro hi0 (And.intro hz0 (And.intro hz1 hz2)))
  have HO : Hid (Only (w.heap.size ≤ ·) w (w.alloc (.cells #[.bool f, .slice A n c, .slice B m d] 25))) := (Only.refl _ w).alloc (fun _ h => h) _
  have HI : Hid (Blk (w.alloc (.cells #[.bool f, .slice A n c, .slice B m d] 25)) w.heap.size 25 [.bool f, .slice A n c, .slice B m d]) := Blk.new w 25 _
  have hM2 := hs.many
  obtain ⟨M, hM⟩ : ∃ M, M = many x := ⟨_, rfl⟩
  have HMM := Lib.hid hM
  have HM : Hid (∀ W, Only (w.heap.size ≤ ·) w W → Calls Tryd.prog 22 #[.agg #[.bool f, .slice A n c, .slice B m d]] W (Told W (.int .i64 (M : Nat)))) := fun W hW => by rw [hM]; exact DMany_c W f A B n c m d x (hnod.later hW).nod.now
  obtain ⟨b, hb⟩ : ∃ b, nfit g x = b := ⟨_, rfl⟩
  have HNF := Lib.hid hb
  have HFT : Hid (∀ W, Only (w.heap.size ≤ ·) w W → Calls Tryd.prog 34 #[.int .i64 g, .agg #[.bool f, .slice A n c, .slice B m d]] W (Told W (.bool b))) := fun W hW => DFits_c W f A B n c m d x g b hb (hnod.later hW).nod.now hs
  have HRM : Hid (∀ W j, j ≤ M → Only (w.heap.size ≤ ·) w W → Calls Tryd.prog 21 #[.int .i64 g, .agg #[.bool f, .slice A n c, .slice B m d], .int .i64 j] W (Told W (.int .i64 (pre (rms g x) j)))) := fun W j hj hW => DRoom_c W f A B n c m d x g j (hnod.later hW).nod.now hs (by rw [← hM]; exact hj)
  have HX := Lib.hid (And.intro hnod hkey)
  have HQ := Lib.hid hq
  have HS := Lib.hid hs
  have HF := Lib.hid hF
  obtain ⟨i0, i1, i2⟩ := HI.out.tri
  rw [← hM] at hM2 hN
  clear hi0 hz0 hz1 hz2 hb hM hnod hkey hq hs hF
  cases b
  · by_cases hm : M < 2
    · have HM2 := Lib.hid hm
      have hmi : ((M : Nat) : Int) < 2 := by omega
      go_enter Tryd.func10, Tryd.ntmps10
      go_wp2_with (first
      | (go_at_call 22; (with_reducible refine (HM.out _ HO.out).mono ?_); rintro e w1 ⟨rfl, ho⟩; (replace HI := Lib.hid (HI.out.later ho)); (replace HO := Lib.hid (on_new HO.out ho)); (obtain ⟨i0, i1, i2⟩ := HI.out.tri); clear ho)
      | (go_at_call 34; (with_reducible refine (HFT.out _ HO.out).mono ?_); rintro e w2 ⟨rfl, ho⟩; (replace HI := Lib.hid (HI.out.later ho)); (replace HO := Lib.hid (on_new HO.out ho)); (obtain ⟨i0, i1, i2⟩ := HI.out.tri); clear ho))
      go_ret
      obtain rfl := HQ.out
      exact dparts_one HO.out HF.out HX.out.1 HX.out.2 (.inr (by rw [← HMM.out]; exact HM2.out))
    · have HM2 := Lib.hid hm
      have hmi : ¬ ((M : Nat) : Int) < 2 := by omega
      obtain ⟨l, hl⟩ : ∃ l, l = rms g x := ⟨_, rfl⟩
      have HLL := Lib.hid hl
      have HLN : Hid (l.length = M) := Lib.hid (by rw [hl, rms_length, HMM.out])
      have HEA : Hid (Each 20000 l) := Lib.hid (by rw [hl]; exact HS.out.each g)
      have hsum : 0 ≤ l.sum ∧ l.sum ≤ 20000000 := by
        have := Each.sum (by omega) HEA.out
        rw [HLN.out] at this
        omega
      rw [← hl] at HRM
      clear hl hm
      go_enter Tryd.func10, Tryd.ntmps10
      go_wp2_with (first
      | (go_at_call 22; (with_reducible refine (HM.out _ HO.out).mono ?_); rintro e w1 ⟨rfl, ho⟩; (replace HI := Lib.hid (HI.out.later ho)); (replace HO := Lib.hid (on_new HO.out ho)); (obtain ⟨i0, i1, i2⟩ := HI.out.tri); clear ho)
      | (go_at_call 34; (with_reducible refine (HFT.out _ HO.out).mono ?_); rintro e w2 ⟨rfl, ho⟩; (replace HI := Lib.hid (HI.out.later ho)); (replace HO := Lib.hid (on_new HO.out ho)); (obtain ⟨i0, i1, i2⟩ := HI.out.tri); clear ho))
      go_loopw [8] (fun i wr => ∃ (j : Nat), 1 ≤ j ∧ j < M ∧ i = .int .i64 j ∧ Hid (∀ t, 1 ≤ t → t < j → 2 * pre l t < l.sum) ∧ Only (w2.heap.size ≤ ·) w2 wr) (fun i _ => M - (intOf i).toNat)
      case atStart => exact ⟨1, by omega, by have := HM2.out; omega, rfl, fun t h1 h2 => by omega, Only.refl _ _⟩
      case round =>
        obtain ⟨j, hj1, hj2, rfl, HJ, ho⟩ := hrel
        have HOL := Lib.hid ho
        have HOR := Lib.hid (on_new HO.out ho)
        have HIR := Lib.hid (HI.out.later ho)
        have KP : Hid (∀ w' : World, Only (w2.heap.size ≤ ·) w2 w' → (w'.cell? ⟨w.heap.size, 0, none⟩ = some (.bool f) ∧ w'.cell? ⟨w.heap.size, 1, none⟩ = some (.slice A n c) ∧ w'.cell? ⟨w.heap.size, 2, none⟩ = some (.slice B m d))) := fun W hW => (HI.out.later hW).tri
        clear ho i0 i1 i2
        obtain ⟨T, hT⟩ : ∃ T, T = pre l j := ⟨_, rfl⟩
        obtain ⟨S, hS⟩ : ∃ S, S = l.sum := ⟨_, rfl⟩
        have hTr : 0 ≤ T ∧ T ≤ S := by rw [hT, hS]; exact Each.pre (by omega) HEA.out j
        have HTS := Lib.hid (And.intro hT hS)
        have HRT : Hid (∀ W, Only (w.heap.size ≤ ·) w W → Calls Tryd.prog 21 #[.int .i64 g, .agg #[.bool f, .slice A n c, .slice B m d], .int .i64 j] W (Told W (.int .i64 T))) := fun W hW => by rw [hT]; exact HRM.out W j (by omega) hW
        have HRS : Hid (∀ W, Only (w.heap.size ≤ ·) w W → Calls Tryd.prog 21 #[.int .i64 g, .agg #[.bool f, .slice A n c, .slice B m d], .int .i64 M] W (Told W (.int .i64 S))) := fun W hW => by
          have := HRM.out W M (Nat.le_refl _) hW
          have e := pre_all l
          rw [HLN.out] at e
          rw [e, ← hS] at this
          exact this
        rw [← hS] at hsum
        clear hT hS
        go_upto_region 5 with (fail)
        go_cut [38] from 23 to 38 (fun bb wx => bb = .bool (decide (j + 1 < M ∧ 2 * T < S)) ∧ Only (wr.heap.size ≤ ·) wr wx)
        case first =>
          have HOZ : Hid (Only (wr.heap.size ≤ ·) wr wr.drew) := (Only.refl _ wr).drew
          have hw1 : IntKind.i64.wrap ((M : Int) - 1) = (M : Int) - 1 := IntWalk.i64_in _ (by omega)
          have hw2 : IntKind.i64.wrap (2 * T) = 2 * T := IntWalk.i64_in _ (by omega)
          refine wp_region_held_drew (S := (fun w' => (w'.cell? ⟨w.heap.size, 0, none⟩ = some (.bool f) ∧ w'.cell? ⟨w.heap.size, 1, none⟩ = some (.slice A n c) ∧ w'.cell? ⟨w.heap.size, 2, none⟩ = some (.slice B m d)))) (by kernel_rfl) (KP.out _ (HOL.out.trans (HOZ.out.mono fun k h => Nat.le_trans HOL.out.size h))) (fun hHeld => ?_)
          by_cases hjm : j + 1 < M
          · have hd : decide ((j : Int) < (M : Int) - 1) = true := decide_eq_true (by omega)
            refine take_one (i := 0) (d := 23) (oi := ?_) (v := ?_) ?_ (by kernel_rfl) (by kernel_rfl) (by kernel_rfl) (fun _ _ _ h => h) ?_ ?_ ?_ (by assumption) ?_
            case refine_3 => (simp only [List.getElem?_toArray, List.getElem?_cons_zero]; rfl)
            case refine_4 => rfl
            case refine_5 => rfl
            case refine_6 => (intro w' hSw; (try dsimp only at hSw); go_simp; (try with_reducible rfl))
            simp only [Act.put, List.setIfInBounds_toArray, List.set_cons_zero, List.set_cons_succ]
            refine take_one (i := 1) (d := 24) (oi := ?_) (v := ?_) ?_ (by kernel_rfl) (by kernel_rfl) (by kernel_rfl) (fun _ _ _ h => h) ?_ ?_ ?_ (by assumption) ?_
            case refine_3 => (simp only [List.getElem?_toArray, List.getElem?_cons_succ, List.getElem?_cons_zero]; rfl)
            case refine_4 => rfl
            case refine_5 => rfl
            case refine_6 => (intro w' hSw; (try dsimp only at hSw); go_simp; (try with_reducible rfl))
            simp only [Act.put, List.setIfInBounds_toArray, List.set_cons_zero, List.set_cons_succ]
            refine take_one (i := 2) (d := 25) (oi := ?_) (v := ?_) ?_ (by kernel_rfl) (by kernel_rfl) (by kernel_rfl) (fun _ _ _ h => h) ?_ ?_ ?_ (by assumption) ?_
            case refine_3 => (simp only [List.getElem?_toArray, List.getElem?_cons_succ, List.getElem?_cons_zero]; rfl)
            case refine_4 => rfl
            case refine_5 => rfl
            case refine_6 => (intro w' hSw; (try dsimp only at hSw); go_simp; (try with_reducible rfl))
            simp only [Act.put, List.setIfInBounds_toArray, List.set_cons_zero, List.set_cons_succ]
            refine take_one (i := 3) (d := 26) (oi := ?_) (v := ?_) ?_ (by kernel_rfl) (by kernel_rfl) (by kernel_rfl) (fun _ _ _ h => h) ?_ ?_ ?_ (by assumption) ?_
            case refine_3 => (simp only [List.getElem?_toArray, List.getElem?_cons_succ, List.getElem?_cons_zero]; rfl)
            case refine_4 => rfl
            case refine_5 => rfl
            case refine_6 => (intro w' hSw; (try dsimp only at hSw); go_simp; (try with_reducible rfl))
            simp only [Act.put, List.setIfInBounds_toArray, List.set_cons_zero, List.set_cons_succ]
            refine take_one (i := 4) (d := 27) (oi := ?_) (v := ?_) ?_ (by kernel_rfl) (by kernel_rfl) (by kernel_rfl) (fun _ _ _ h => h) ?_ ?_ ?_ (by assumption) ?_
            case refine_3 => (simp only [List.getElem?_toArray, List.getElem?_cons_succ, List.getElem?_cons_zero]; rfl)
            case refine_4 => rfl
            case refine_5 => rfl
            case refine_6 => (intro w' hSw; (try dsimp only at hSw); go_simp; (try with_reducible rfl))
            simp only [Act.put, List.setIfInBounds_toArray, List.set_cons_zero, List.set_cons_succ]
            refine take_one (i := 5) (d := 28) (oi := ?_) (v := ?_) ?_ (by kernel_rfl) (by kernel_rfl) (by kernel_rfl) (fun _ _ _ h => h) ?_ ?_ ?_ (by assumption) ?_
            case refine_3 => (simp only [List.getElem?_toArray, List.getElem?_cons_succ, List.getElem?_cons_zero]; rfl)
            case refine_4 => rfl
            case refine_5 => rfl
            case refine_6 => (intro w' hSw; (try dsimp only at hSw); go_simp; (try with_reducible rfl))
            simp only [Act.put, List.setIfInBounds_toArray, List.set_cons_zero, List.set_cons_succ]
            refine take_one (i := 6) (d := 29) (oi := ?_) (v := ?_) ?_ (by kernel_rfl) (by kernel_rfl) (by kernel_rfl) (fun _ _ _ h => h) ?_ ?_ ?_ (by assumption) ?_
            case refine_3 => (simp only [List.getElem?_toArray, List.getElem?_cons_succ, List.getElem?_cons_zero]; rfl)
            case refine_4 => rfl
            case refine_5 => rfl
            case refine_6 => (intro w' hSw; (try dsimp only at hSw); go_simp; (try with_reducible rfl))
            simp only [Act.put, List.setIfInBounds_toArray, List.set_cons_zero, List.set_cons_succ]
            refine take_one (i := 7) (d := 30) (oi := ?_) (v := ?_) ?_ (by kernel_rfl) (by kernel_rfl) (by kernel_rfl) (fun _ _ _ h => h) ?_ ?_ ?_ (by assumption) ?_
            case refine_3 => (simp only [List.getElem?_toArray, List.getElem?_cons_succ, List.getElem?_cons_zero]; rfl)
            case refine_4 => rfl
            case refine_5 => rfl
            case refine_6 => (intro w' hSw; (try dsimp only at hSw); go_simp; (try with_reducible rfl))
            simp only [Act.put, List.setIfInBounds_toArray, List.set_cons_zero, List.set_cons_succ]
            refine take_one (i := 10) (d := 33) (oi := ?_) (v := ?_) ?_ (by kernel_rfl) (by kernel_rfl) (by kernel_rfl) (fun _ _ _ h => h) ?_ ?_ ?_ (by assumption) ?_
            case refine_3 => (simp only [List.getElem?_toArray, List.getElem?_cons_succ, List.getElem?_cons_zero]; rfl)
            case refine_4 => rfl
            case refine_5 => rfl
            case refine_6 => (intro w' hSw; (try dsimp only at hSw); go_simp; (try with_reducible rfl))
            simp only [Act.put, List.setIfInBounds_toArray, List.set_cons_zero, List.set_cons_succ]
            refine take_one (i := 11) (d := 34) (oi := ?_) (v := ?_) ?_ (by kernel_rfl) (by kernel_rfl) (by kernel_rfl) (fun _ _ _ h => h) ?_ ?_ ?_ (by assumption) ?_
            case refine_3 => (simp only [List.getElem?_toArray, List.getElem?_cons_succ, List.getElem?_cons_zero]; rfl)
            case refine_4 => rfl
            case refine_5 => rfl
            case refine_6 => (intro w' hSw; (try dsimp only at hSw); go_simp; (try with_reducible rfl))
            simp only [Act.put, List.setIfInBounds_toArray, List.set_cons_zero, List.set_cons_succ]
            refine take_one (i := 12) (d := 35) (oi := ?_) (v := ?_) ?_ (by kernel_rfl) (by kernel_rfl) (by kernel_rfl) (fun _ _ _ h => h) ?_ ?_ ?_ (by assumption) ?_
            case refine_3 => (simp only [List.getElem?_toArray, List.getElem?_cons_succ, List.getElem?_cons_zero]; rfl)
            case refine_4 => rfl
            case refine_5 => rfl
            case refine_6 => (intro w' hSw; (try dsimp only at hSw); go_simp; (try with_reducible rfl))
            simp only [Act.put, List.setIfInBounds_toArray, List.set_cons_zero, List.set_cons_succ]
            refine wpAnyH_ready (rs := [8]) (by kernel_rfl) (by simp) ?_
            refine AllReadyH.cons (o := ?_) ?_ (fun K hK => ?_) AllReadyH.nil
            case refine_2 => (simp only [List.getElem?_toArray, List.getElem?_cons_succ, List.getElem?_cons_zero]; rfl)
            go_simp
            (go_at_call 21; (with_reducible refine (HRT.out _ (on_new HOR.out HOZ.out)).mono ?_); rintro e v1 ⟨rfl, ho⟩; (replace HOZ := Lib.hid (on_new HOZ.out ho)); clear ho)
            go_wp2_with (fail)
            refine hK.out _ _ (KP.out _ (HOL.out.trans (HOZ.out.mono fun k h => Nat.le_trans HOL.out.size h))) (fun hHeld => ?_)
            clear hK K
            try simp only [Act.put, List.setIfInBounds_toArray, List.set_cons_zero, List.set_cons_succ]
            refine take_one (i := 9) (d := 32) (oi := ?_) (v := ?_) ?_ (by kernel_rfl) (by kernel_rfl) (by kernel_rfl) (fun _ _ _ h => h) ?_ ?_ ?_ (by assumption) ?_
            case refine_3 => (simp only [List.getElem?_toArray, List.getElem?_cons_succ, List.getElem?_cons_zero]; rfl)
            case refine_4 => rfl
            case refine_5 => rfl
            case refine_6 => (intro w' hSw; (try dsimp only at hSw); go_simp; (try with_reducible rfl))
            simp only [Act.put, List.setIfInBounds_toArray, List.set_cons_zero, List.set_cons_succ]
            refine wpAnyH_ready (rs := [13]) (by kernel_rfl) (by simp) ?_
            refine AllReadyH.cons (o := ?_) ?_ (fun K hK => ?_) AllReadyH.nil
            case refine_2 => (simp only [List.getElem?_toArray, List.getElem?_cons_succ, List.getElem?_cons_zero]; rfl)
            go_simp
            (go_at_call 21; (with_reducible refine (HRS.out _ (on_new HOR.out HOZ.out)).mono ?_); rintro e v2 ⟨rfl, ho⟩; (replace HOZ := Lib.hid (on_new HOZ.out ho)); clear ho)
            go_wp2_with (fail)
            refine hK.out _ _ (KP.out _ (HOL.out.trans (HOZ.out.mono fun k h => Nat.le_trans HOL.out.size h))) (fun hHeld => ?_)
            clear hK K
            try simp only [Act.put, List.setIfInBounds_toArray, List.set_cons_zero, List.set_cons_succ]
            refine take_one (i := 14) (d := 37) (oi := ?_) (v := ?_) ?_ (by kernel_rfl) (by kernel_rfl) (by kernel_rfl) (fun _ _ _ h => h) ?_ ?_ ?_ (by assumption) ?_
            case refine_3 => (simp only [List.getElem?_toArray, List.getElem?_cons_succ, List.getElem?_cons_zero]; rfl)
            case refine_4 => rfl
            case refine_5 => rfl
            case refine_6 => (intro w' hSw; (try dsimp only at hSw); go_simp; (try with_reducible rfl))
            simp only [Act.put, List.setIfInBounds_toArray, List.set_cons_zero, List.set_cons_succ]
            refine take_one (i := 15) (d := 38) (oi := ?_) (v := ?_) ?_ (by kernel_rfl) (by kernel_rfl) (by kernel_rfl) (fun _ _ _ h => h) ?_ ?_ ?_ (by assumption) ?_
            case refine_3 => (simp only [List.getElem?_toArray, List.getElem?_cons_succ, List.getElem?_cons_zero]; rfl)
            case refine_4 => rfl
            case refine_5 => rfl
            case refine_6 => (intro w' hSw; (try dsimp only at hSw); go_simp; (try with_reducible rfl))
            simp only [Act.put, List.setIfInBounds_toArray, List.set_cons_zero, List.set_cons_succ]
            refine wpAnyH_done (by kernel_rfl) ?_ _
            try go_wp2_with (fail)
            go_meet
            exact ⟨congrArg Value.bool (decide_eq_decide.2 ⟨fun h => ⟨hjm, h⟩, fun h => h.2⟩), HOZ.out⟩
          · have hd : decide ((j : Int) < (M : Int) - 1) = false := decide_eq_false (by omega)
            refine take_one (i := 0) (d := 23) (oi := ?_) (v := ?_) ?_ (by kernel_rfl) (by kernel_rfl) (by kernel_rfl) (fun _ _ _ h => h) ?_ ?_ ?_ (by assumption) ?_
            case refine_3 => (simp only [List.getElem?_toArray, List.getElem?_cons_zero]; rfl)
            case refine_4 => rfl
            case refine_5 => rfl
            case refine_6 => (intro w' hSw; (try dsimp only at hSw); go_simp; (try with_reducible rfl))
            simp only [Act.put, List.setIfInBounds_toArray, List.set_cons_zero, List.set_cons_succ]
            refine take_one (i := 1) (d := 24) (oi := ?_) (v := ?_) ?_ (by kernel_rfl) (by kernel_rfl) (by kernel_rfl) (fun _ _ _ h => h) ?_ ?_ ?_ (by assumption) ?_
            case refine_3 => (simp only [List.getElem?_toArray, List.getElem?_cons_succ, List.getElem?_cons_zero]; rfl)
            case refine_4 => rfl
            case refine_5 => rfl
            case refine_6 => (intro w' hSw; (try dsimp only at hSw); go_simp; (try with_reducible rfl))
            simp only [Act.put, List.setIfInBounds_toArray, List.set_cons_zero, List.set_cons_succ]
            refine take_one (i := 2) (d := 25) (oi := ?_) (v := ?_) ?_ (by kernel_rfl) (by kernel_rfl) (by kernel_rfl) (fun _ _ _ h => h) ?_ ?_ ?_ (by assumption) ?_
            case refine_3 => (simp only [List.getElem?_toArray, List.getElem?_cons_succ, List.getElem?_cons_zero]; rfl)
            case refine_4 => rfl
            case refine_5 => rfl
            case refine_6 => (intro w' hSw; (try dsimp only at hSw); go_simp; (try with_reducible rfl))
            simp only [Act.put, List.setIfInBounds_toArray, List.set_cons_zero, List.set_cons_succ]
            refine take_one (i := 3) (d := 26) (oi := ?_) (v := ?_) ?_ (by kernel_rfl) (by kernel_rfl) (by kernel_rfl) (fun _ _ _ h => h) ?_ ?_ ?_ (by assumption) ?_
            case refine_3 => (simp only [List.getElem?_toArray, List.getElem?_cons_succ, List.getElem?_cons_zero]; rfl)
            case refine_4 => rfl
            case refine_5 => rfl
            case refine_6 => (intro w' hSw; (try dsimp only at hSw); go_simp; (try with_reducible rfl))
            simp only [Act.put, List.setIfInBounds_toArray, List.set_cons_zero, List.set_cons_succ]
            refine take_one (i := 4) (d := 27) (oi := ?_) (v := ?_) ?_ (by kernel_rfl) (by kernel_rfl) (by kernel_rfl) (fun _ _ _ h => h) ?_ ?_ ?_ (by assumption) ?_
            case refine_3 => (simp only [List.getElem?_toArray, List.getElem?_cons_succ, List.getElem?_cons_zero]; rfl)
            case refine_4 => rfl
            case refine_5 => rfl
            case refine_6 => (intro w' hSw; (try dsimp only at hSw); go_simp; (try with_reducible rfl))
            simp only [Act.put, List.setIfInBounds_toArray, List.set_cons_zero, List.set_cons_succ]
            refine take_skip (i := 5) (d := 28) (oi := ?_) ?_ (by kernel_rfl) (by kernel_rfl) (by kernel_rfl) (fun _ _ _ h => h) ?_ ?_ (by assumption) ?_
            case refine_2 => (simp only [List.getElem?_toArray, List.getElem?_cons_succ, List.getElem?_cons_zero]; rfl)
            case refine_3 => rfl
            case refine_4 => rfl
            simp only [Act.put, List.setIfInBounds_toArray, List.set_cons_zero, List.set_cons_succ]
            refine take_skip (i := 6) (d := 29) (oi := ?_) ?_ (by kernel_rfl) (by kernel_rfl) (by kernel_rfl) (fun _ _ _ h => h) ?_ ?_ (by assumption) ?_
            case refine_2 => (simp only [List.getElem?_toArray, List.getElem?_cons_succ, List.getElem?_cons_zero]; rfl)
            case refine_3 => rfl
            case refine_4 => rfl
            simp only [Act.put, List.setIfInBounds_toArray, List.set_cons_zero, List.set_cons_succ]
            refine take_skip (i := 7) (d := 30) (oi := ?_) ?_ (by kernel_rfl) (by kernel_rfl) (by kernel_rfl) (fun _ _ _ h => h) ?_ ?_ (by assumption) ?_
            case refine_2 => (simp only [List.getElem?_toArray, List.getElem?_cons_succ, List.getElem?_cons_zero]; rfl)
            case refine_3 => rfl
            case refine_4 => rfl
            simp only [Act.put, List.setIfInBounds_toArray, List.set_cons_zero, List.set_cons_succ]
            refine take_skip (i := 8) (d := 31) (oi := ?_) ?_ (by kernel_rfl) (by kernel_rfl) (by kernel_rfl) (fun _ _ _ h => h) ?_ ?_ (by assumption) ?_
            case refine_2 => (simp only [List.getElem?_toArray, List.getElem?_cons_succ, List.getElem?_cons_zero]; rfl)
            case refine_3 => rfl
            case refine_4 => rfl
            simp only [Act.put, List.setIfInBounds_toArray, List.set_cons_zero, List.set_cons_succ]
            refine take_skip (i := 9) (d := 32) (oi := ?_) ?_ (by kernel_rfl) (by kernel_rfl) (by kernel_rfl) (fun _ _ _ h => h) ?_ ?_ (by assumption) ?_
            case refine_2 => (simp only [List.getElem?_toArray, List.getElem?_cons_succ, List.getElem?_cons_zero]; rfl)
            case refine_3 => rfl
            case refine_4 => rfl
            simp only [Act.put, List.setIfInBounds_toArray, List.set_cons_zero, List.set_cons_succ]
            refine take_skip (i := 10) (d := 33) (oi := ?_) ?_ (by kernel_rfl) (by kernel_rfl) (by kernel_rfl) (fun _ _ _ h => h) ?_ ?_ (by assumption) ?_
            case refine_2 => (simp only [List.getElem?_toArray, List.getElem?_cons_succ, List.getElem?_cons_zero]; rfl)
            case refine_3 => rfl
            case refine_4 => rfl
            simp only [Act.put, List.setIfInBounds_toArray, List.set_cons_zero, List.set_cons_succ]
            refine take_skip (i := 11) (d := 34) (oi := ?_) ?_ (by kernel_rfl) (by kernel_rfl) (by kernel_rfl) (fun _ _ _ h => h) ?_ ?_ (by assumption) ?_
            case refine_2 => (simp only [List.getElem?_toArray, List.getElem?_cons_succ, List.getElem?_cons_zero]; rfl)
            case refine_3 => rfl
            case refine_4 => rfl
            simp only [Act.put, List.setIfInBounds_toArray, List.set_cons_zero, List.set_cons_succ]
            refine take_skip (i := 12) (d := 35) (oi := ?_) ?_ (by kernel_rfl) (by kernel_rfl) (by kernel_rfl) (fun _ _ _ h => h) ?_ ?_ (by assumption) ?_
            case refine_2 => (simp only [List.getElem?_toArray, List.getElem?_cons_succ, List.getElem?_cons_zero]; rfl)
            case refine_3 => rfl
            case refine_4 => rfl
            simp only [Act.put, List.setIfInBounds_toArray, List.set_cons_zero, List.set_cons_succ]
            refine take_skip (i := 13) (d := 36) (oi := ?_) ?_ (by kernel_rfl) (by kernel_rfl) (by kernel_rfl) (fun _ _ _ h => h) ?_ ?_ (by assumption) ?_
            case refine_2 => (simp only [List.getElem?_toArray, List.getElem?_cons_succ, List.getElem?_cons_zero]; rfl)
            case refine_3 => rfl
            case refine_4 => rfl
            simp only [Act.put, List.setIfInBounds_toArray, List.set_cons_zero, List.set_cons_succ]
            refine take_skip (i := 14) (d := 37) (oi := ?_) ?_ (by kernel_rfl) (by kernel_rfl) (by kernel_rfl) (fun _ _ _ h => h) ?_ ?_ (by assumption) ?_
            case refine_2 => (simp only [List.getElem?_toArray, List.getElem?_cons_succ, List.getElem?_cons_zero]; rfl)
            case refine_3 => rfl
            case refine_4 => rfl
            simp only [Act.put, List.setIfInBounds_toArray, List.set_cons_zero, List.set_cons_succ]
            refine take_one (i := 15) (d := 38) (oi := ?_) (v := ?_) ?_ (by kernel_rfl) (by kernel_rfl) (by kernel_rfl) (fun _ _ _ h => h) ?_ ?_ ?_ (by assumption) ?_
            case refine_3 => (simp only [List.getElem?_toArray, List.getElem?_cons_succ, List.getElem?_cons_zero]; rfl)
            case refine_4 => rfl
            case refine_5 => rfl
            case refine_6 => (intro w' hSw; (try dsimp only at hSw); go_simp; (try with_reducible rfl))
            simp only [Act.put, List.setIfInBounds_toArray, List.set_cons_zero, List.set_cons_succ]
            refine wpAnyH_done (by kernel_rfl) ?_ _
            try go_wp2_with (fail)
            go_meet
            exact ⟨congrArg Value.bool (decide_eq_false fun h => hjm h.1).symm, HOZ.out⟩
        case rest =>
          obtain ⟨rfl, hoc⟩ := hcut
          by_cases hgo : j + 1 < M ∧ 2 * T < S
          · have hd : decide (j + 1 < M ∧ 2 * T < S) = true := decide_eq_true hgo
            have hgo1 := hgo.1
            have HGO := Lib.hid hgo.2
            have HOC := Lib.hid (on_new HOL.out hoc)
            rw [hd]
            clear hd hgo hoc
            go_wp2
            go_roundw
            case rel => exact ⟨j + 1, by omega, by omega, by go_num, Lib.hid (fun t h1 h2 => by
              by_cases e : t = j
              · rw [e, ← HTS.out.1, ← HTS.out.2]; exact HGO.out
              · exact HJ.out t h1 (by omega)), HOC.out⟩
            case measure => simp [intOf]; omega
          · have hd : decide (j + 1 < M ∧ 2 * T < S) = false := decide_eq_false hgo
            have HMID : Hid (IsMid (rms g x) j) := Lib.hid (by
              rw [← HLL.out]
              refine ⟨hj1, by rw [HLN.out]; exact hj2, HJ.out, ?_⟩
              rw [← HTS.out.1, ← HTS.out.2, HLN.out]
              by_cases e : j + 1 = M
              · exact .inr e
              · exact .inl (by have : ¬ 2 * T < S := fun h => hgo ⟨by omega, h⟩
                               omega))
            rw [hd]
            have HJM : Hid (1 ≤ j ∧ j < M) := ⟨hj1, hj2⟩
            have HOC := Lib.hid (on_new HOR.out hoc)
            have HIC := Lib.hid (HIR.out.later hoc)
            have HSL1 : Hid (∀ W, Only (w.heap.size ≤ ·) w W → Calls Tryd.prog 35 #[.agg #[.bool f, .slice A n c, .slice B m d], .int .i64 0, .int .i64 j] W (GaveS F W (fstN j x))) := fun W hW => slice_fst W F A B f n c m d j x (fun k hk => Nat.lt_of_lt_of_le (HF.out k hk) hW.size) (HX.out.1.later hW) HS.out HJM.out.1 (by rw [← HMM.out]; exact HJM.out.2)
            have HSL2 : Hid (∀ (W : World) (F2 : Nat → Prop), (∀ k, F2 k → k < W.heap.size) → (∀ k, F2 k → F k ∨ w.heap.size ≤ k) → Only (w.heap.size ≤ ·) w W → Calls Tryd.prog 35 #[.agg #[.bool f, .slice A n c, .slice B m d], .int .i64 j, .int .i64 M] W (GaveS F2 W (sndN j x))) := fun W F2 h1 h2 hW => by
              have := slice_snd W F2 A B f n c m d j x h1 (HX.out.1.step (hW.mono fun _ h => .inr h) h2) HS.out HJM.out.1 (by rw [← HMM.out]; exact HJM.out.2)
              rwa [← HMM.out] at this
            have HIH1 : Hid (∀ (W : World) (FA : Option Addr) (fn fc : Nat) (FB : Option Addr) (fm fd : Nat), Only (w.heap.size ≤ ·) w W → SNod F W (fstN j x) (fstN j x).leaf (.slice FA fn fc) (.slice FB fm fd) → Calls Tryd.prog 10 #[.int .i64 g, .slice P q p, .agg #[.bool (fstN j x).leaf, .slice FA fn fc, .slice FB fm fd]] W (DPieces F W g ks (fstN j x))) := fun W FA fn fc FB fm fd hW hsn => ih (many (fstN j x)) (by rw [many_fst (by rw [← HMM.out]; omega)]; omega) W F _ P FA FB q p fn fc fm fd ks (fstN j x) (Nat.le_refl _) (HS.out.halves j).1 (fun k hk => Nat.lt_of_lt_of_le (HF.out k hk) hW.size) hsn HQ.out (HX.out.2.later hW)
            have HKEY : Hid (∀ (Q : Option Addr) (t : Nat), Stab F w (fun W => Src W (.slice Q (keyN j x).length t) (keyN j x)) → ∀ (W : World) (F2 : Nat → Prop) (SA : Option Addr) (sn sc : Nat) (SB : Option Addr) (sm sd : Nat), (∀ k, F2 k → k < W.heap.size) → (∀ k, F2 k → F k ∨ w.heap.size ≤ k) → Only (w.heap.size ≤ ·) w W → SNod F2 W (sndN j x) (sndN j x).leaf (.slice SA sn sc) (.slice SB sm sd) → Calls Tryd.prog 10 #[.int .i64 g, .slice Q (keyN j x).length t, .agg #[.bool (sndN j x).leaf, .slice SA sn sc, .slice SB sm sd]] W (DPieces F2 W g (keyN j x) (sndN j x))) := fun Q t hst W F2 SA sn sc SB sm sd h1 h2 hW hsn => ih (many (sndN j x)) (by rw [many_snd, ← HMM.out]; omega) W F2 _ Q SA SB _ t sn sc sm sd (keyN j x) (sndN j x) (Nat.le_refl _) (HS.out.halves j).2 h1 hsn rfl (hst.step (hW.mono fun _ h => .inr h) h2)
            clear hd hgo hoc hTr hmi
            have hnc := HX.out.1.nod.now.2.1.len
            have hmc := HX.out.1.nod.now.2.2.len
            have hfl := HX.out.1.1
            have hJ2 : j < many x := by rw [← HMM.out]; exact hj2
            cases f
            · rw [many_kids hfl.symm] at hJ2
              obtain ⟨b, off, i, Q, t, rfl, hb, hcp, hi, hcell, hst⟩ := kds_key HX.out.1.2.2 (by omega : j < m)
              have hkk := key_kids hfl.symm hi
              rw [← hkk] at hcell hst
              have HIH2 := Lib.hid (HKEY.out Q t hst)
              have hcw : wc.cell? ⟨b, off + j * 2, none⟩ = some (.slice Q (keyN j x).length t) := (HOC.out.cell (p := ⟨b, off + j * 2, none⟩) (Nat.not_le.2 hb)).trans hcell
              have q1 : (0 : Int) ≤ (j : Int) := by omega
              have q2 : (j : Int) < (m : Int) := by omega
              have KQ : Hid (∀ w' : World, Only (wc.heap.size ≤ ·) wc w' → (w'.cell? ⟨w.heap.size, 0, none⟩ = some (.bool false) ∧ w'.cell? ⟨w.heap.size, 1, none⟩ = some (.slice A n c) ∧ w'.cell? ⟨w.heap.size, 2, none⟩ = some (.slice (some ⟨b, off, none⟩) m d))) := fun W hW => (HIC.out.later hW).tri
              obtain ⟨i0, i1, i2⟩ := HIC.out.tri
              clear hcell hst hkk hi hfl hnc hmc HKEY
              go_wp2_with (fail)
              have HOZ : Hid (Only (wc.heap.size ≤ ·) wc wc.drew) := (Only.refl _ wc).drew
              refine wp_region_held_drew (S := (fun w' => (w'.cell? ⟨w.heap.size, 0, none⟩ = some (.bool false) ∧ w'.cell? ⟨w.heap.size, 1, none⟩ = some (.slice A n c) ∧ w'.cell? ⟨w.heap.size, 2, none⟩ = some (.slice (some ⟨b, off, none⟩) m d)))) (by kernel_rfl) (KQ.out _ HOZ.out) (fun hHeld => ?_)
              refine take_one (i := 0) (d := 55) (oi := ?_) (v := ?_) ?_ (by kernel_rfl) (by kernel_rfl) (by kernel_rfl) (fun _ _ _ h => h) ?_ ?_ ?_ (by assumption) ?_
              case refine_3 => (simp only [List.getElem?_toArray, List.getElem?_cons_zero]; rfl)
              case refine_4 => rfl
              case refine_5 => rfl
              case refine_6 => (intro w' hSw; (try dsimp only at hSw); go_simp; (try with_reducible rfl))
              simp only [Act.put, List.setIfInBounds_toArray, List.set_cons_zero, List.set_cons_succ]
              refine take_one (i := 1) (d := 56) (oi := ?_) (v := ?_) ?_ (by kernel_rfl) (by kernel_rfl) (by kernel_rfl) (fun _ _ _ h => h) ?_ ?_ ?_ (by assumption) ?_
              case refine_3 => (simp only [List.getElem?_toArray, List.getElem?_cons_succ, List.getElem?_cons_zero]; rfl)
              case refine_4 => rfl
              case refine_5 => rfl
              case refine_6 => (intro w' hSw; (try dsimp only at hSw); go_simp; (try with_reducible rfl))
              simp only [Act.put, List.setIfInBounds_toArray, List.set_cons_zero, List.set_cons_succ]
              refine take_one (i := 2) (d := 57) (oi := ?_) (v := ?_) ?_ (by kernel_rfl) (by kernel_rfl) (by kernel_rfl) (fun _ _ _ h => h) ?_ ?_ ?_ (by assumption) ?_
              case refine_3 => (simp only [List.getElem?_toArray, List.getElem?_cons_succ, List.getElem?_cons_zero]; rfl)
              case refine_4 => rfl
              case refine_5 => rfl
              case refine_6 => (intro w' hSw; (try dsimp only at hSw); go_simp; (try with_reducible rfl))
              simp only [Act.put, List.setIfInBounds_toArray, List.set_cons_zero, List.set_cons_succ]
              refine take_one (i := 3) (d := 58) (oi := ?_) (v := ?_) ?_ (by kernel_rfl) (by kernel_rfl) (by kernel_rfl) (fun _ _ _ h => h) ?_ ?_ ?_ (by assumption) ?_
              case refine_3 => (simp only [List.getElem?_toArray, List.getElem?_cons_succ, List.getElem?_cons_zero]; rfl)
              case refine_4 => rfl
              case refine_5 => rfl
              case refine_6 => (intro w' hSw; (try dsimp only at hSw); go_simp; (try with_reducible rfl))
              simp only [Act.put, List.setIfInBounds_toArray, List.set_cons_zero, List.set_cons_succ]
              refine take_one (i := 6) (d := 61) (oi := ?_) (v := ?_) ?_ (by kernel_rfl) (by kernel_rfl) (by kernel_rfl) (fun _ _ _ h => h) ?_ ?_ ?_ (by assumption) ?_
              case refine_3 => (simp only [List.getElem?_toArray, List.getElem?_cons_succ, List.getElem?_cons_zero]; rfl)
              case refine_4 => rfl
              case refine_5 => rfl
              case refine_6 => (intro w' hSw; (try dsimp only at hSw); go_simp; (try with_reducible rfl))
              simp only [Act.put, List.setIfInBounds_toArray, List.set_cons_zero, List.set_cons_succ]
              refine take_one (i := 7) (d := 62) (oi := ?_) (v := ?_) ?_ (by kernel_rfl) (by kernel_rfl) (by kernel_rfl) (fun _ _ _ h => h) ?_ ?_ ?_ (by assumption) ?_
              case refine_3 => (simp only [List.getElem?_toArray, List.getElem?_cons_succ, List.getElem?_cons_zero]; rfl)
              case refine_4 => rfl
              case refine_5 => rfl
              case refine_6 => (intro w' hSw; (try dsimp only at hSw); go_simp; (try with_reducible rfl))
              simp only [Act.put, List.setIfInBounds_toArray, List.set_cons_zero, List.set_cons_succ]
              refine take_one (i := 8) (d := 63) (oi := ?_) (v := ?_) ?_ (by kernel_rfl) (by kernel_rfl) (by kernel_rfl) (fun _ _ _ h => h) ?_ ?_ ?_ (by assumption) ?_
              case refine_3 => (simp only [List.getElem?_toArray, List.getElem?_cons_succ, List.getElem?_cons_zero]; rfl)
              case refine_4 => rfl
              case refine_5 => rfl
              case refine_6 => (intro w' hSw; (try dsimp only at hSw); go_simp; (try with_reducible rfl))
              simp only [Act.put, List.setIfInBounds_toArray, List.set_cons_zero, List.set_cons_succ]
              refine take_one (i := 9) (d := 64) (oi := ?_) (v := ?_) ?_ (by kernel_rfl) (by kernel_rfl) (by kernel_rfl) (fun _ _ _ h => h) ?_ ?_ ?_ (by assumption) ?_
              case refine_3 => (simp only [List.getElem?_toArray, List.getElem?_cons_succ, List.getElem?_cons_zero]; rfl)
              case refine_4 => rfl
              case refine_5 => rfl
              case refine_6 => (intro w' hSw; (try dsimp only at hSw); go_simp; (try with_reducible rfl))
              simp only [Act.put, List.setIfInBounds_toArray, List.set_cons_zero, List.set_cons_succ]
              refine take_one (i := 10) (d := 65) (oi := ?_) (v := ?_) ?_ (by kernel_rfl) (by kernel_rfl) (by kernel_rfl) (fun _ _ _ h => h) ?_ ?_ ?_ (by assumption) ?_
              case refine_3 => (simp only [List.getElem?_toArray, List.getElem?_cons_succ, List.getElem?_cons_zero]; rfl)
              case refine_4 => rfl
              case refine_5 => rfl
              case refine_6 => (intro w' hSw; (try dsimp only at hSw); go_simp; (try with_reducible rfl))
              simp only [Act.put, List.setIfInBounds_toArray, List.set_cons_zero, List.set_cons_succ]
              refine wpAnyH_ready (rs := [4]) (by kernel_rfl) (by simp) ?_
              refine AllReadyH.cons (o := ?_) ?_ (fun K hK => ?_) AllReadyH.nil
              case refine_2 => (simp only [List.getElem?_toArray, List.getElem?_cons_succ, List.getElem?_cons_zero]; rfl)
              go_simp
              (go_at_call 35; (with_reducible refine (HSL1.out _ (on_new HOC.out HOZ.out)).mono ?_); rintro e v1 ⟨FA, fn, fc, FB, fm, fd, rfl, s1, ho⟩; have HS1 := Lib.hid s1; have HOW1 := Lib.hid (on_new (on_new HOC.out HOZ.out) ho); (replace HOZ := Lib.hid (on_new HOZ.out ho)); have HZ1 := Lib.hid HOZ.out.size; clear ho s1)
              go_wp2_with (fail)
              refine hK.out _ _ (KQ.out _ HOZ.out) (fun hHeld => ?_)
              clear hK K
              try simp only [Act.put, List.setIfInBounds_toArray, List.set_cons_zero, List.set_cons_succ]
              refine wpAnyH_ready (rs := [5]) (by kernel_rfl) (by simp) ?_
              refine AllReadyH.cons (o := ?_) ?_ (fun K hK => ?_) AllReadyH.nil
              case refine_2 => (simp only [List.getElem?_toArray, List.getElem?_cons_succ, List.getElem?_cons_zero]; rfl)
              go_simp
              (go_at_call 10; (with_reducible refine (HIH1.out _ _ _ _ _ _ _ HOW1.out HS1.out).mono ?_); rintro e v2 ⟨PA1, pn1, pc1, l1, C1, rfl, hc1, hl1, ho1, st1, ho⟩; have HP1 := Lib.hid (And.intro hc1 (And.intro hl1 (And.intro ho1 (And.intro st1 ho)))); have HF2 := Lib.hid (f_two HF.out HOW1.out ho1 ho); (replace HOZ := Lib.hid (on_new HOZ.out ho)); have HOW2 := Lib.hid (on_new HOW1.out ho); clear ho hc1 hl1 ho1 st1)
              go_wp2_with (fail)
              refine hK.out _ _ (KQ.out _ HOZ.out) (fun hHeld => ?_)
              clear hK K
              try simp only [Act.put, List.setIfInBounds_toArray, List.set_cons_zero, List.set_cons_succ]
              refine wpAnyH_ready (rs := [11]) (by kernel_rfl) (by simp) ?_
              refine AllReadyH.cons (o := ?_) ?_ (fun K hK => ?_) AllReadyH.nil
              case refine_2 => (simp only [List.getElem?_toArray, List.getElem?_cons_succ, List.getElem?_cons_zero]; rfl)
              go_simp
              (go_at_call 35; (with_reducible refine (HSL2.out _ _ HF2.out.1 HF2.out.2 HOW2.out).mono ?_); rintro e v3 ⟨SA, sn, sc, SB, sm, sd, rfl, s3, ho⟩; have HS3 := Lib.hid s3; have HOW3 := Lib.hid (on_new HOW2.out ho); have HO23 := Lib.hid ho; (replace HOZ := Lib.hid (on_new HOZ.out ho)); clear ho s3)
              go_wp2_with (fail)
              refine hK.out _ _ (KQ.out _ HOZ.out) (fun hHeld => ?_)
              clear hK K
              try simp only [Act.put, List.setIfInBounds_toArray, List.set_cons_zero, List.set_cons_succ]
              refine wpAnyH_ready (rs := [12]) (by kernel_rfl) (by simp) ?_
              refine AllReadyH.cons (o := ?_) ?_ (fun K hK => ?_) AllReadyH.nil
              case refine_2 => (simp only [List.getElem?_toArray, List.getElem?_cons_succ, List.getElem?_cons_zero]; rfl)
              go_simp
              (go_at_call 10; (with_reducible refine (HIH2.out _ _ _ _ _ _ _ _ (fun k hk => Nat.lt_of_lt_of_le (HF2.out.1 k hk) HO23.out.size) HF2.out.2 HOW3.out HS3.out).mono ?_); rintro e v4 ⟨PA2, pn2, pc2, l2, C2, rfl, hc2, hl2, ho2, st2, ho⟩; (obtain ⟨g2, hPA2, hcell2, hone2⟩ := row_cells ho2 st2.now hl2 hc2.pos); subst hPA2; have HP2 := Lib.hid (And.intro hc2 (And.intro hl2 (And.intro ho2 (And.intro st2 (And.intro hcell2 hone2))))); have HO24 := Lib.hid (on_new HO23.out ho); have HL := Lib.hid (And.intro hc2.most hl2); (replace HOZ := Lib.hid (on_new HOZ.out ho)); clear ho hc2 hl2 ho2 st2 hcell2 hone2)
              go_wp2_with (fail)
              refine hK.out _ _ (KQ.out _ HOZ.out) (fun hHeld => ?_)
              clear hK K
              try simp only [Act.put, List.setIfInBounds_toArray, List.set_cons_zero, List.set_cons_succ]
              refine wpAnyH_ready (rs := [13]) (by kernel_rfl) (by simp) ?_
              refine AllReadyH.cons (o := ?_) ?_ (fun K hK => ?_) AllReadyH.nil
              case refine_2 => (simp only [List.getElem?_toArray, List.getElem?_cons_succ, List.getElem?_cons_zero]; rfl)
              rw [if_pos (by kernel_rfl)]
              obtain ⟨hc1, hl1, ho1, st1, hO12⟩ := HP1.out
              obtain ⟨hc2, hl2, ho2, st2, hcell2, hone2⟩ := HP2.out
              have hb1 : pn1 ≤ 1000 := by have h1 := hc1.most; have h2 := (HS.out.halves j).1.many; omega
              have hb2 : pn2 ≤ 1000 := by have h1 := hc2.most; have h2 := (HS.out.halves j).2.many; omega
              refine wp_append_at (.tmp 60) (.tmp 67) 38 rfl w.heap.size 44 i0' zP 4 80 Tryd.underlying38 HIP.out.1 HIP.out.2.1 HIP.out.2.2.1 HIP.out.2.2.2 (by rfl) (by omega) (.slice PA1 pn1 pc1) pn1 C1 rfl (World.ownsRow.mono (own_later ho1 HO24.out) HOW1.out.size) ⟨g2, 0, none⟩ pn2 pc2 C2 rfl ho2.1 hcell2 hone2 (by simp only [maxLen]; omega) (by omega) (by have h1 := HOW3.out.size; have h2 := HOZ.out.size; have h3 := HOC.out.size; omega) ?_
              intro v' w' ho' hg' hat'
              have hown1 := World.ownsRow.lt ho1
              have HO5 : Hid (Only (wc.heap.size ≤ ·) wc w') := Only.grown HOZ.out hg' (fun _ h => h) (fun gg hgg => Nat.le_trans HZ1.out (hown1 gg hgg).1)
              have HFIN : Hid (DPieces F w g ks x (.returned v') w') := dparts_two HNF.out (by rw [← HMM.out]; have := HM2.out; omega) HMID.out hc1 hc2 hl1 hl2 ho1 st1 st2 HOW1.out hO12 HO24.out hg' ho' hat'
              clear ho' hg' hat' hown1 hc1 hl1 ho1 st1 hO12 hc2 hl2 ho2 st2 hcell2 hone2
              refine hK.out _ _ (KQ.out _ HO5.out) (fun hHeld => ?_)
              clear hK K
              try simp only [Act.put, List.setIfInBounds_toArray, List.set_cons_zero, List.set_cons_succ]
              refine take_one (i := 14) (d := 6) (oi := ?_) (v := ?_) ?_ (by kernel_rfl) (by kernel_rfl) (by kernel_rfl) (fun _ _ _ h => h) ?_ ?_ ?_ (by assumption) ?_
              case refine_3 => (simp only [List.getElem?_toArray, List.getElem?_cons_succ, List.getElem?_cons_zero]; rfl)
              case refine_4 => rfl
              case refine_5 => rfl
              case refine_6 => (intro w' hSw; (try dsimp only at hSw); go_simp; (try with_reducible rfl))
              simp only [Act.put, List.setIfInBounds_toArray, List.set_cons_zero, List.set_cons_succ]
              refine wpAnyH_done (by kernel_rfl) ?_ _
              go_wp2
              go_ret
              exact HFIN.out
            · rw [many_leaf hfl.symm] at hJ2
              obtain ⟨b, off, i, Q, t, rfl, hb, hcp, hi, hcell, hst⟩ := its_key HX.out.1.2.1 (by omega : j < n)
              have hkk := key_leaf hfl.symm hi
              rw [← hkk] at hcell hst
              have HIH2 := Lib.hid (HKEY.out Q t hst)
              have hcw : wc.cell? ⟨b, off + j * 4, none⟩ = some (.slice Q (keyN j x).length t) := (HOC.out.cell (p := ⟨b, off + j * 4, none⟩) (Nat.not_le.2 hb)).trans hcell
              have q1 : (0 : Int) ≤ (j : Int) := by omega
              have q2 : (j : Int) < (n : Int) := by omega
              have KQ : Hid (∀ w' : World, Only (wc.heap.size ≤ ·) wc w' → (w'.cell? ⟨w.heap.size, 0, none⟩ = some (.bool true) ∧ w'.cell? ⟨w.heap.size, 1, none⟩ = some (.slice (some ⟨b, off, none⟩) n c) ∧ w'.cell? ⟨w.heap.size, 2, none⟩ = some (.slice B m d))) := fun W hW => (HIC.out.later hW).tri
              obtain ⟨i0, i1, i2⟩ := HIC.out.tri
              clear hcell hst hkk hi hfl hnc hmc HKEY
              go_wp2_with (fail)
              have HOZ : Hid (Only (wc.heap.size ≤ ·) wc wc.drew) := (Only.refl _ wc).drew
              refine wp_region_held_drew (S := (fun w' => (w'.cell? ⟨w.heap.size, 0, none⟩ = some (.bool true) ∧ w'.cell? ⟨w.heap.size, 1, none⟩ = some (.slice (some ⟨b, off, none⟩) n c) ∧ w'.cell? ⟨w.heap.size, 2, none⟩ = some (.slice B m d)))) (by kernel_rfl) (KQ.out _ HOZ.out) (fun hHeld => ?_)
              refine take_one (i := 0) (d := 55) (oi := ?_) (v := ?_) ?_ (by kernel_rfl) (by kernel_rfl) (by kernel_rfl) (fun _ _ _ h => h) ?_ ?_ ?_ (by assumption) ?_
              case refine_3 => (simp only [List.getElem?_toArray, List.getElem?_cons_zero]; rfl)
              case refine_4 => rfl
              case refine_5 => rfl
              case refine_6 => (intro w' hSw; (try dsimp only at hSw); go_simp; (try with_reducible rfl))
              simp only [Act.put, List.setIfInBounds_toArray, List.set_cons_zero, List.set_cons_succ]
              refine take_one (i := 1) (d := 56) (oi := ?_) (v := ?_) ?_ (by kernel_rfl) (by kernel_rfl) (by kernel_rfl) (fun _ _ _ h => h) ?_ ?_ ?_ (by assumption) ?_
              case refine_3 => (simp only [List.getElem?_toArray, List.getElem?_cons_succ, List.getElem?_cons_zero]; rfl)
              case refine_4 => rfl
              case refine_5 => rfl
              case refine_6 => (intro w' hSw; (try dsimp only at hSw); go_simp; (try with_reducible rfl))
              simp only [Act.put, List.setIfInBounds_toArray, List.set_cons_zero, List.set_cons_succ]
              refine take_one (i := 2) (d := 57) (oi := ?_) (v := ?_) ?_ (by kernel_rfl) (by kernel_rfl) (by kernel_rfl) (fun _ _ _ h => h) ?_ ?_ ?_ (by assumption) ?_
              case refine_3 => (simp only [List.getElem?_toArray, List.getElem?_cons_succ, List.getElem?_cons_zero]; rfl)
              case refine_4 => rfl
              case refine_5 => rfl
              case refine_6 => (intro w' hSw; (try dsimp only at hSw); go_simp; (try with_reducible rfl))
              simp only [Act.put, List.setIfInBounds_toArray, List.set_cons_zero, List.set_cons_succ]
              refine take_one (i := 3) (d := 58) (oi := ?_) (v := ?_) ?_ (by kernel_rfl) (by kernel_rfl) (by kernel_rfl) (fun _ _ _ h => h) ?_ ?_ ?_ (by assumption) ?_
              case refine_3 => (simp only [List.getElem?_toArray, List.getElem?_cons_succ, List.getElem?_cons_zero]; rfl)
              case refine_4 => rfl
              case refine_5 => rfl
              case refine_6 => (intro w' hSw; (try dsimp only at hSw); go_simp; (try with_reducible rfl))
              simp only [Act.put, List.setIfInBounds_toArray, List.set_cons_zero, List.set_cons_succ]
              refine take_one (i := 6) (d := 61) (oi := ?_) (v := ?_) ?_ (by kernel_rfl) (by kernel_rfl) (by kernel_rfl) (fun _ _ _ h => h) ?_ ?_ ?_ (by assumption) ?_
              case refine_3 => (simp only [List.getElem?_toArray, List.getElem?_cons_succ, List.getElem?_cons_zero]; rfl)
              case refine_4 => rfl
              case refine_5 => rfl
              case refine_6 => (intro w' hSw; (try dsimp only at hSw); go_simp; (try with_reducible rfl))
              simp only [Act.put, List.setIfInBounds_toArray, List.set_cons_zero, List.set_cons_succ]
              refine take_one (i := 7) (d := 62) (oi := ?_) (v := ?_) ?_ (by kernel_rfl) (by kernel_rfl) (by kernel_rfl) (fun _ _ _ h => h) ?_ ?_ ?_ (by assumption) ?_
              case refine_3 => (simp only [List.getElem?_toArray, List.getElem?_cons_succ, List.getElem?_cons_zero]; rfl)
              case refine_4 => rfl
              case refine_5 => rfl
              case refine_6 => (intro w' hSw; (try dsimp only at hSw); go_simp; (try with_reducible rfl))
              simp only [Act.put, List.setIfInBounds_toArray, List.set_cons_zero, List.set_cons_succ]
              refine take_one (i := 8) (d := 63) (oi := ?_) (v := ?_) ?_ (by kernel_rfl) (by kernel_rfl) (by kernel_rfl) (fun _ _ _ h => h) ?_ ?_ ?_ (by assumption) ?_
              case refine_3 => (simp only [List.getElem?_toArray, List.getElem?_cons_succ, List.getElem?_cons_zero]; rfl)
              case refine_4 => rfl
              case refine_5 => rfl
              case refine_6 => (intro w' hSw; (try dsimp only at hSw); go_simp; (try with_reducible rfl))
              simp only [Act.put, List.setIfInBounds_toArray, List.set_cons_zero, List.set_cons_succ]
              refine take_one (i := 9) (d := 64) (oi := ?_) (v := ?_) ?_ (by kernel_rfl) (by kernel_rfl) (by kernel_rfl) (fun _ _ _ h => h) ?_ ?_ ?_ (by assumption) ?_
              case refine_3 => (simp only [List.getElem?_toArray, List.getElem?_cons_succ, List.getElem?_cons_zero]; rfl)
              case refine_4 => rfl
              case refine_5 => rfl
              case refine_6 => (intro w' hSw; (try dsimp only at hSw); go_simp; (try with_reducible rfl))
              simp only [Act.put, List.setIfInBounds_toArray, List.set_cons_zero, List.set_cons_succ]
              refine take_one (i := 10) (d := 65) (oi := ?_) (v := ?_) ?_ (by kernel_rfl) (by kernel_rfl) (by kernel_rfl) (fun _ _ _ h => h) ?_ ?_ ?_ (by assumption) ?_
              case refine_3 => (simp only [List.getElem?_toArray, List.getElem?_cons_succ, List.getElem?_cons_zero]; rfl)
              case refine_4 => rfl
              case refine_5 => rfl
              case refine_6 => (intro w' hSw; (try dsimp only at hSw); go_simp; (try with_reducible rfl))
              simp only [Act.put, List.setIfInBounds_toArray, List.set_cons_zero, List.set_cons_succ]
              refine wpAnyH_ready (rs := [4]) (by kernel_rfl) (by simp) ?_
              refine AllReadyH.cons (o := ?_) ?_ (fun K hK => ?_) AllReadyH.nil
              case refine_2 => (simp only [List.getElem?_toArray, List.getElem?_cons_succ, List.getElem?_cons_zero]; rfl)
              go_simp
              (go_at_call 35; (with_reducible refine (HSL1.out _ (on_new HOC.out HOZ.out)).mono ?_); rintro e v1 ⟨FA, fn, fc, FB, fm, fd, rfl, s1, ho⟩; have HS1 := Lib.hid s1; have HOW1 := Lib.hid (on_new (on_new HOC.out HOZ.out) ho); (replace HOZ := Lib.hid (on_new HOZ.out ho)); have HZ1 := Lib.hid HOZ.out.size; clear ho s1)
              go_wp2_with (fail)
              refine hK.out _ _ (KQ.out _ HOZ.out) (fun hHeld => ?_)
              clear hK K
              try simp only [Act.put, List.setIfInBounds_toArray, List.set_cons_zero, List.set_cons_succ]
              refine wpAnyH_ready (rs := [5]) (by kernel_rfl) (by simp) ?_
              refine AllReadyH.cons (o := ?_) ?_ (fun K hK => ?_) AllReadyH.nil
              case refine_2 => (simp only [List.getElem?_toArray, List.getElem?_cons_succ, List.getElem?_cons_zero]; rfl)
              go_simp
              (go_at_call 10; (with_reducible refine (HIH1.out _ _ _ _ _ _ _ HOW1.out HS1.out).mono ?_); rintro e v2 ⟨PA1, pn1, pc1, l1, C1, rfl, hc1, hl1, ho1, st1, ho⟩; have HP1 := Lib.hid (And.intro hc1 (And.intro hl1 (And.intro ho1 (And.intro st1 ho)))); have HF2 := Lib.hid (f_two HF.out HOW1.out ho1 ho); (replace HOZ := Lib.hid (on_new HOZ.out ho)); have HOW2 := Lib.hid (on_new HOW1.out ho); clear ho hc1 hl1 ho1 st1)
              go_wp2_with (fail)
              refine hK.out _ _ (KQ.out _ HOZ.out) (fun hHeld => ?_)
              clear hK K
              try simp only [Act.put, List.setIfInBounds_toArray, List.set_cons_zero, List.set_cons_succ]
              refine wpAnyH_ready (rs := [11]) (by kernel_rfl) (by simp) ?_
              refine AllReadyH.cons (o := ?_) ?_ (fun K hK => ?_) AllReadyH.nil
              case refine_2 => (simp only [List.getElem?_toArray, List.getElem?_cons_succ, List.getElem?_cons_zero]; rfl)
              go_simp
              (go_at_call 35; (with_reducible refine (HSL2.out _ _ HF2.out.1 HF2.out.2 HOW2.out).mono ?_); rintro e v3 ⟨SA, sn, sc, SB, sm, sd, rfl, s3, ho⟩; have HS3 := Lib.hid s3; have HOW3 := Lib.hid (on_new HOW2.out ho); have HO23 := Lib.hid ho; (replace HOZ := Lib.hid (on_new HOZ.out ho)); clear ho s3)
              go_wp2_with (fail)
              refine hK.out _ _ (KQ.out _ HOZ.out) (fun hHeld => ?_)
              clear hK K
              try simp only [Act.put, List.setIfInBounds_toArray, List.set_cons_zero, List.set_cons_succ]
              refine wpAnyH_ready (rs := [12]) (by kernel_rfl) (by simp) ?_
              refine AllReadyH.cons (o := ?_) ?_ (fun K hK => ?_) AllReadyH.nil
              case refine_2 => (simp only [List.getElem?_toArray, List.getElem?_cons_succ, List.getElem?_cons_zero]; rfl)
              go_simp
              (go_at_call 10; (with_reducible refine (HIH2.out _ _ _ _ _ _ _ _ (fun k hk => Nat.lt_of_lt_of_le (HF2.out.1 k hk) HO23.out.size) HF2.out.2 HOW3.out HS3.out).mono ?_); rintro e v4 ⟨PA2, pn2, pc2, l2, C2, rfl, hc2, hl2, ho2, st2, ho⟩; (obtain ⟨g2, hPA2, hcell2, hone2⟩ := row_cells ho2 st2.now hl2 hc2.pos); subst hPA2; have HP2 := Lib.hid (And.intro hc2 (And.intro hl2 (And.intro ho2 (And.intro st2 (And.intro hcell2 hone2))))); have HO24 := Lib.hid (on_new HO23.out ho); have HL := Lib.hid (And.intro hc2.most hl2); (replace HOZ := Lib.hid (on_new HOZ.out ho)); clear ho hc2 hl2 ho2 st2 hcell2 hone2)
              go_wp2_with (fail)
              refine hK.out _ _ (KQ.out _ HOZ.out) (fun hHeld => ?_)
              clear hK K
              try simp only [Act.put, List.setIfInBounds_toArray, List.set_cons_zero, List.set_cons_succ]
              refine wpAnyH_ready (rs := [13]) (by kernel_rfl) (by simp) ?_
              refine AllReadyH.cons (o := ?_) ?_ (fun K hK => ?_) AllReadyH.nil
              case refine_2 => (simp only [List.getElem?_toArray, List.getElem?_cons_succ, List.getElem?_cons_zero]; rfl)
              rw [if_pos (by kernel_rfl)]
              obtain ⟨hc1, hl1, ho1, st1, hO12⟩ := HP1.out
              obtain ⟨hc2, hl2, ho2, st2, hcell2, hone2⟩ := HP2.out
              have hb1 : pn1 ≤ 1000 := by have h1 := hc1.most; have h2 := (HS.out.halves j).1.many; omega
              have hb2 : pn2 ≤ 1000 := by have h1 := hc2.most; have h2 := (HS.out.halves j).2.many; omega
              refine wp_append_at (.tmp 60) (.tmp 67) 38 rfl w.heap.size 44 i0' zP 4 80 Tryd.underlying38 HIP.out.1 HIP.out.2.1 HIP.out.2.2.1 HIP.out.2.2.2 (by rfl) (by omega) (.slice PA1 pn1 pc1) pn1 C1 rfl (World.ownsRow.mono (own_later ho1 HO24.out) HOW1.out.size) ⟨g2, 0, none⟩ pn2 pc2 C2 rfl ho2.1 hcell2 hone2 (by simp only [maxLen]; omega) (by omega) (by have h1 := HOW3.out.size; have h2 := HOZ.out.size; have h3 := HOC.out.size; omega) ?_
              intro v' w' ho' hg' hat'
              have hown1 := World.ownsRow.lt ho1
              have HO5 : Hid (Only (wc.heap.size ≤ ·) wc w') := Only.grown HOZ.out hg' (fun _ h => h) (fun gg hgg => Nat.le_trans HZ1.out (hown1 gg hgg).1)
              have HFIN : Hid (DPieces F w g ks x (.returned v') w') := dparts_two HNF.out (by rw [← HMM.out]; have := HM2.out; omega) HMID.out hc1 hc2 hl1 hl2 ho1 st1 st2 HOW1.out hO12 HO24.out hg' ho' hat'
              clear ho' hg' hat' hown1 hc1 hl1 ho1 st1 hO12 hc2 hl2 ho2 st2 hcell2 hone2
              refine hK.out _ _ (KQ.out _ HO5.out) (fun hHeld => ?_)
              clear hK K
              try simp only [Act.put, List.setIfInBounds_toArray, List.set_cons_zero, List.set_cons_succ]
              refine take_one (i := 14) (d := 6) (oi := ?_) (v := ?_) ?_ (by kernel_rfl) (by kernel_rfl) (by kernel_rfl) (fun _ _ _ h => h) ?_ ?_ ?_ (by assumption) ?_
              case refine_3 => (simp only [List.getElem?_toArray, List.getElem?_cons_succ, List.getElem?_cons_zero]; rfl)
              case refine_4 => rfl
              case refine_5 => rfl
              case refine_6 => (intro w' hSw; (try dsimp only at hSw); go_simp; (try with_reducible rfl))
              simp only [Act.put, List.setIfInBounds_toArray, List.set_cons_zero, List.set_cons_succ]
              refine wpAnyH_done (by kernel_rfl) ?_ _
              go_wp2
              go_ret
              exact HFIN.out
  · go_enter Tryd.func10, Tryd.ntmps10
    go_wp2_with (first
      | (go_at_call 22; (with_reducible refine (HM.out _ HO.out).mono ?_); rintro e w1 ⟨rfl, ho⟩; (replace HI := Lib.hid (HI.out.later ho)); (replace HO := Lib.hid (on_new HO.out ho)); (obtain ⟨i0, i1, i2⟩ := HI.out.tri); clear ho)
      | (go_at_call 34; (with_reducible refine (HFT.out _ HO.out).mono ?_); rintro e w2 ⟨rfl, ho⟩; (replace HI := Lib.hid (HI.out.later ho)); (replace HO := Lib.hid (on_new HO.out ho)); (obtain ⟨i0, i1, i2⟩ := HI.out.tri); clear ho))
    go_ret
    obtain rfl := HQ.out
    exact dparts_one HO.out HF.out HX.out.1 HX.out.2 (.inl HNF.out)
end Go.Proofs.YtjbbljnfgpggkaaDoor
