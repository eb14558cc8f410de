/-
  The document's Room, Fits and Right of a node of any size: what is known of their answers.
-/
import Derived.Test.YtoghojgajpfkkaaGreatDoorDoc
import Derived.Test.YtoghojgajpfkkaaGreatDoorGb
import Derived.RegionTactic
import Derived.BigRegion
import Derived.Deep.CutRange
set_option linter.unusedVariables false
namespace Go.Proofs.YtoghojgajpfkkaaGreatDoor
open Go.RowKit

/-- A number came back, of which this is known; only new blocks. -/
def ToldI (w : World) (R : Int → Prop) (e : Ending) (w' : World) : Prop := ∃ a, e = .returned (.int .i64 a) ∧ R a ∧ Only (w.heap.size ≤ ·) w w'
/-- A bool came back, of which this is known; only new blocks. -/
def ToldB (w : World) (R : Bool → Prop) (e : Ending) (w' : World) : Prop := ∃ b, e = .returned (.bool b) ∧ R b ∧ Only (w.heap.size ≤ ·) w w'
/-- The k-th entry is no giant. -/
def EOk (x : Nd) (k : Nat) : Prop := (x.leaf = true → ∀ i, x.its[k]? = some i → i.1.length ≤ 1000 ∧ i.2.1.length ≤ 10000) ∧ (x.leaf = false → ∀ i, x.kds[k]? = some i → i.1.length ≤ 1000)
section
variable (w : World) (A B : Option Addr) (n c m d : Nat) (s r g : Int)
set_option maxHeartbeats 3200000 in
theorem rRoom_w : Calls Tryz.prog 116 #[.int .i64 g, .agg #[.slice A n c, .slice B m d, .int .i64 s, .int .i64 r]] w (ToldI w (fun a => n ≤ 1000000 ∧ m ≤ 1000000 → a = room g n m r)) := by
  by_cases hno : n ≤ 1000000 ∧ m ≤ 1000000
  · exact (rRoom_c w A B n c m d s r g hno.1 hno.2).mono fun e w' h => ⟨_, h.1, fun _ => rfl, h.2⟩
  have HI : Hid (Blk (w.alloc (.cells #[.slice A n c, .slice B m d, .int .i64 s, .int .i64 r] 63)) w.heap.size 63 [.slice A n c, .slice B m d, .int .i64 s, .int .i64 r]) := Blk.new w 63 [.slice A n c, .slice B m d, .int .i64 s, .int .i64 r]
  have HO : Hid (Only (w.heap.size ≤ ·) w (w.alloc (.cells #[.slice A n c, .slice B m d, .int .i64 s, .int .i64 r] 63))) := (Only.refl _ w).alloc (fun _ h => h) _
  obtain ⟨b, hb⟩ : ∃ b, far m r = b := ⟨_, rfl⟩
  obtain ⟨i, hi⟩ : ∃ i, i = tr g 4 8 8 := ⟨_, rfl⟩
  have HB := Lib.hid hb
  have HW : Hid (∀ W, Calls Tryz.prog 53 #[.int .i64 g] W fun e w' => e = .returned (.int .i64 i) ∧ W = w') := fun W => by rw [hi]; exact rIdWidth_c W g
  have hi8 := id_range g
  rw [← hi] at hi8
  have HK : Hid (room g n m r = if gen g = true then 4 + n + (if b = true then i else (m : Int)) else 0) := by show _ = _; unfold room; rw [hb, hi]
  skip
  have HNO := Lib.hid hno
  clear hb hi HK hno
  by_cases g1 : g < 1
  · skip
    go_enter Tryz.func116, Tryz.ntmps116
    go_wp2
    go_ret
    exact ⟨_, rfl, (by first | (intro h h2; exact absurd ⟨h, h2⟩ HNO.out) | (intro h; exact absurd h HNO.out)), HO.out⟩
  by_cases g3 : 3 < g
  · skip
    go_enter Tryz.func116, Tryz.ntmps116
    go_wp2
    go_ret
    exact ⟨_, rfl, (by first | (intro h h2; exact absurd ⟨h, h2⟩ HNO.out) | (intro h; exact absurd h HNO.out)), HO.out⟩
  cases b
  · skip
    go_enter Tryz.func116, Tryz.ntmps116
    go_wp2_with (first
      | (go_at_call 56; (with_reducible refine (rFar_c _ _ _ _ _ _ _ _ _ _ HB.out).mono ?_); rintro e w1 ⟨rfl, ho⟩; (replace HI := Lib.hid (HI.out.later ho)); (obtain ⟨hi0, hi1, hi2, hi3⟩ := HI.out.four); (replace HO := Lib.hid (on_new HO.out ho)); clear ho)
      | (go_at_call 53; (with_reducible refine (HW.out _).mono ?_); rintro e w' ⟨rfl, rfl⟩))
    go_ret
    exact ⟨_, rfl, (by first | (intro h h2; exact absurd ⟨h, h2⟩ HNO.out) | (intro h; exact absurd h HNO.out)), HO.out⟩
  · skip
    go_enter Tryz.func116, Tryz.ntmps116
    go_wp2_with (first
      | (go_at_call 56; (with_reducible refine (rFar_c _ _ _ _ _ _ _ _ _ _ HB.out).mono ?_); rintro e w1 ⟨rfl, ho⟩; (replace HI := Lib.hid (HI.out.later ho)); (obtain ⟨hi0, hi1, hi2, hi3⟩ := HI.out.four); (replace HO := Lib.hid (on_new HO.out ho)); clear ho)
      | (go_at_call 53; (with_reducible refine (HW.out _).mono ?_); rintro e w' ⟨rfl, rfl⟩))
    go_ret
    exact ⟨_, rfl, (by first | (intro h h2; exact absurd ⟨h, h2⟩ HNO.out) | (intro h; exact absurd h HNO.out)), HO.out⟩
end
section
variable (w : World) (f : Bool) (A B : Option Addr) (n c m d : Nat) (x : Nd) (g : Int)
set_option maxRecDepth 100000 in
set_option maxHeartbeats 3200000 in
theorem Droom_w (k : Nat) (hN : Nod w x f (.slice A n c) (.slice B m d)) (hk : k < many x) :
    Calls Tryz.prog 111 #[.int .i64 g, .agg #[.bool f, .slice A n c, .slice B m d], .int .i64 k] w (ToldI w (fun a => EOk x k → (rms g x)[k]? = some a)) := by
  have HO : Hid (Only (w.heap.size ≤ ·) w (w.alloc (.cells #[.bool f, .slice A n c, .slice B m d] 35))) := (Only.refl _ w).alloc (fun _ h => h) _
  have HI : Hid (Blk (w.alloc (.cells #[.bool f, .slice A n c, .slice B m d] 35)) w.heap.size 35 [.bool f, .slice A n c, .slice B m d]) := Blk.new w 35 _
  have hf := hN.1
  have hc1 := hN.2.1.cap
  have hc2 := hN.2.2.cap
  obtain ⟨a, ha⟩ : ∃ a, (rms g x)[k]? = some a := ⟨_, List.getElem?_eq_getElem (by rw [rms_length]; exact hk)⟩
  by_cases g1 : g < 1
  · obtain rfl : a = 0 := by
      have hg : gen g = false := by unfold gen; rw [decide_eq_false_iff_not]; omega
      cases f
      · rw [rms_kids g hf.symm, List.getElem?_map] at ha
        cases h : x.kds[k]? <;> rw [h] at ha <;> simp [krm, kid, hg] at ha
        exact ha.symm
      · rw [rms_leaf g hf.symm, List.getElem?_map] at ha
        cases h : x.its[k]? <;> rw [h] at ha <;> simp [irm, room, hg] at ha
        exact ha.symm
    have HA := Lib.hid ha
    clear hN ha hf
    go_enter Tryz.func111, Tryz.ntmps111
    go_wp2
    go_ret
    exact ⟨_, rfl, fun _ => HA.out, HO.out⟩
  by_cases g3 : 3 < g
  · obtain rfl : a = 0 := by
      have hg : gen g = false := by unfold gen; rw [decide_eq_false_iff_not]; omega
      cases f
      · rw [rms_kids g hf.symm, List.getElem?_map] at ha
        cases h : x.kds[k]? <;> rw [h] at ha <;> simp [krm, kid, hg] at ha
        exact ha.symm
      · rw [rms_leaf g hf.symm, List.getElem?_map] at ha
        cases h : x.its[k]? <;> rw [h] at ha <;> simp [irm, room, hg] at ha
        exact ha.symm
    have HA := Lib.hid ha
    clear hN ha hf
    go_enter Tryz.func111, Tryz.ntmps111
    go_wp2
    go_ret
    exact ⟨_, rfl, fun _ => HA.out, HO.out⟩
  have hg : gen g = true := by unfold gen; rw [decide_eq_true_eq]; omega
  cases f
  · rw [rms_kids g hf.symm, List.getElem?_map] at ha
    obtain ⟨i, hi, rfl⟩ := Option.map_eq_some_iff.1 ha
    have hkn : k < m := by rw [hN.2.2.len]; exact (List.getElem?_eq_some_iff.1 hi).1
    obtain ⟨b, off, y, P, p, rfl, hb, hy, q0, q1, _⟩ := kds_at (hN.2.2.later HO.out) hkn
    obtain rfl : y = i := Option.some.inj (hy.symm.trans hi)
    have HE : Hid (EOk x k → y.1.length ≤ 1000) := Lib.hid fun h => h.2 hf.symm y hi
    have HA : Hid ((rms g x)[k]? = some (krm g y)) := Lib.hid (by rw [rms_kids g hf.symm, List.getElem?_map, hi]; rfl)
    obtain ⟨xs, r⟩ := y
    simp only at q0 q1 HE
    obtain ⟨v, hv⟩ : ∃ v, v = tr g 4 8 8 := ⟨_, rfl⟩
    have hv8 := trs g
    rw [← hv] at hv8
    have HW : Hid (∀ W, Calls Tryz.prog 53 #[.int .i64 g] W fun e w' => e = .returned (.int .i64 v) ∧ w' = W) := fun W => by rw [hv]; exact (rIdWidth_c W g).mono fun _ _ h => ⟨h.1, h.2.symm⟩
    have HK : Hid (krm g (xs, r) = 1 + xs.length + v) := Lib.hid (by unfold krm kid; rw [hg, hv]; rfl)
    obtain ⟨t, ht⟩ : ∃ t, t = xs.length := ⟨_, rfl⟩
    rw [← ht] at HE HK q0
    have j1 : (0 : Int) ≤ (k : Int) := by omega
    have j2 : (k : Int) < (m : Int) := by omega
    have HI3 := HI.out.tri
    obtain ⟨i0, i1, i2⟩ := HI3
    have z1 : decide (g < 1) = false := decide_eq_false g1
    have z2 : decide (3 < g) = false := decide_eq_false g3
    have HV8 := Lib.hid hv8
    clear hN ha hf hi hy ht hv hg hv8
    go_enter Tryz.func111, Tryz.ntmps111
    go_wp2_with (fail)
    obtain ⟨u1, hw1⟩ : ∃ u, IntKind.i64.wrap (1 + (t : Int)) = u := ⟨_, rfl⟩
    obtain ⟨u2, hw2⟩ : ∃ u, IntKind.i64.wrap (u1 + v) = u := ⟨_, rfl⟩
    have HU := Lib.hid (And.intro hw1 hw2)
    go_quiet ((go_at_call 53; exact Calls.quiet_of_same (HW.out _)))
    clear hw1 hw2
    go_wp2
    go_ret
    refine ⟨_, rfl, fun hE => ?_, HO.out.drewN _⟩
    have h1 := HE.out hE
    obtain ⟨e1, e2⟩ := HU.out
    have h8 := HV8.out
    first | rw [IntWalk.i64_in _ (by omega)] at e1 | rw [IntWalk.wrap64_in _ (by omega)] at e1
    rw [← e1] at e2
    first | rw [IntWalk.i64_in _ (by omega)] at e2 | rw [IntWalk.wrap64_in _ (by omega)] at e2
    rw [← e2, ← HK.out]
    exact HA.out
  · rw [rms_leaf g hf.symm, List.getElem?_map] at ha
    obtain ⟨i, hi, rfl⟩ := Option.map_eq_some_iff.1 ha
    have hkn : k < n := by rw [hN.2.1.len]; exact (List.getElem?_eq_some_iff.1 hi).1
    obtain ⟨b, off, y, P, Q, p, q, rfl, hb, hy, q0, q1, q2, q3, _, _⟩ := its_at (hN.2.1.later HO.out) hkn
    obtain rfl : y = i := Option.some.inj (hy.symm.trans hi)
    have HE : Hid (EOk x k → y.1.length ≤ 1000 ∧ y.2.1.length ≤ 10000) := Lib.hid fun h => h.1 hf.symm y hi
    have HA : Hid ((rms g x)[k]? = some (irm g y)) := Lib.hid (by rw [rms_leaf g hf.symm, List.getElem?_map, hi]; rfl)
    obtain ⟨xs, ys, s, r⟩ := y
    have HR : Hid (∀ W, Calls Tryz.prog 116 #[.int .i64 g, .agg #[.slice P xs.length p, .slice Q ys.length q, .int .i64 s, .int .i64 r]] W (ToldI W (fun a => xs.length ≤ 1000000 ∧ ys.length ≤ 1000000 → a = irm g (xs, ys, s, r)))) := fun W => rRoom_w W P Q _ p _ q s r g
    simp only at q0 q1 q2 q3
    clear hN ha hf hi hy hg
    go_enter Tryz.func111, Tryz.ntmps111
    go_wp2_with (go_at_call 116; (with_reducible refine (HR.out _).mono ?_); rintro e w1 ⟨z, rfl, hz, ho⟩; have HZ := Lib.hid hz; clear hz; (replace HO := Lib.hid (on_new HO.out ho)); clear ho)
    go_ret
    exact ⟨z, rfl, fun hE => by have h1 := HE.out hE; rw [HZ.out ⟨Nat.le_trans h1.1 (by omega), Nat.le_trans h1.2 (by omega)⟩]; exact HA.out, HO.out⟩
theorem ent_range {x : Nd} {g : Int} {k : Nat} {a : Int} (hE : EOk x k) (h : (rms g x)[k]? = some a) : 0 ≤ a ∧ a ≤ 20000 := by
  cases hx : x.leaf
  · rw [rms_kids g hx, List.getElem?_map] at h
    obtain ⟨i, hi, rfl⟩ := Option.map_eq_some_iff.1 h
    exact krm_range g i (hE.2 hx i hi)
  · rw [rms_leaf g hx, List.getElem?_map] at h
    obtain ⟨i, hi, rfl⟩ := Option.map_eq_some_iff.1 h
    exact irm_range g i (hE.1 hx i hi).1 (hE.1 hx i hi).2
set_option maxRecDepth 100000 in
set_option maxHeartbeats 3200000 in
theorem DRoom_w (K : Nat) (hN : Nod w x f (.slice A n c) (.slice B m d)) (hm : many x ≤ 70368744177664) (hK : K ≤ many x) :
    Calls Tryz.prog 102 #[.int .i64 g, .agg #[.bool f, .slice A n c, .slice B m d], .int .i64 K] w (ToldI w (fun t => (∀ j, j < K → EOk x j) → t = pre (rms g x) K)) := by
  have HO : Hid (Only (w.heap.size ≤ ·) w (w.alloc (.cells #[.bool f, .slice A n c, .slice B m d] 35))) := (Only.refl _ w).alloc (fun _ h => h) _
  have HI : Hid (Blk (w.alloc (.cells #[.bool f, .slice A n c, .slice B m d] 35)) w.heap.size 35 [.bool f, .slice A n c, .slice B m d]) := Blk.new w 35 _
  obtain ⟨l, hl⟩ : ∃ l, l = rms g x := ⟨_, rfl⟩
  have HR : Hid (∀ (k : Nat), k < K → ∀ W, Only (w.heap.size ≤ ·) w W → Calls Tryz.prog 111 #[.int .i64 g, .agg #[.bool f, .slice A n c, .slice B m d], .int .i64 k] W (ToldI W (fun a => EOk x k → l[k]? = some a ∧ 0 ≤ a ∧ a ≤ 20000))) := by
    intro k hk W hW
    refine (Droom_w W f A B n c m d x g k (hN.later hW) (by omega)).mono ?_
    rintro e w' ⟨a, he, ha, ho⟩
    refine ⟨a, he, fun hE => ?_, ho⟩
    have h := ha hE
    exact ⟨by rw [hl]; exact h, ent_range hE h⟩
  have HL : Hid (l = rms g x) := Lib.hid hl
  have HK : Hid (K ≤ many x ∧ many x ≤ 70368744177664) := Lib.hid ⟨hK, hm⟩
  clear hN hl
  go_enter Tryz.func102, Tryz.ntmps102
  go_wp2
  go_loopw [7, 8] (fun s i wr => ∃ (k : Nat) (t : Int), k ≤ K ∧ s = .int .i64 t ∧ i = .int .i64 k ∧ Hid ((∀ j, j < k → EOk x j) → t = pre l k ∧ 0 ≤ t ∧ t ≤ k * 20000) ∧ Only ((w.alloc (.cells #[.bool f, .slice A n c, .slice B m d] 35)).heap.size ≤ ·) (w.alloc (.cells #[.bool f, .slice A n c, .slice B m d] 35)) wr) (fun _ i _ => K - (intOf i).toNat)
  case atStart => exact ⟨0, 0, Nat.zero_le _, rfl, rfl, Lib.hid fun _ => ⟨rfl, by omega, by omega⟩, Only.refl _ _⟩
  case round =>
    obtain ⟨k, t, hk, rfl, rfl, HT, ho⟩ := hrel
    have HOR := Lib.hid (on_new HO.out ho)
    obtain ⟨i0, i1, i2⟩ := (HI.out.later ho).tri
    have HOL := Lib.hid ho
    clear ho
    by_cases hlt : k < K
    · have HC := Lib.hid (HR.out k hlt)
      have hlti : (k : Int) < (K : Int) := by omega
      go_wp2_with (go_at_call 111; (with_reducible refine (HC.out _ HOR.out).mono ?_); rintro e w3 ⟨a, rfl, ha, ho⟩; have HA := Lib.hid ha; clear ha; have HO3 := Lib.hid (on_new HOL.out ho); clear ho)
      go_roundw
      case rel =>
        refine ⟨k + 1, _, by omega, rfl, by go_num, Lib.hid fun hE => ?_, HO3.out⟩
        obtain ⟨h1, h2, h3⟩ := HT.out fun j hj => hE j (by omega)
        obtain ⟨h4, h5, h6⟩ := HA.out (hE k (by omega))
        have h7 := HK.out
        rw [IntWalk.wrap64_in _ (by omega), pre_succ h4, ← h1]
        exact ⟨rfl, by omega, by omega⟩
      case measure => simp [intOf]; omega
    · obtain rfl : K = k := by omega
      have hkm : ¬ (K : Int) < (K : Int) := by omega
      go_wp2
      go_ret
      exact ⟨_, rfl, fun hE => by rw [(HT.out hE).1, HL.out], HOR.out⟩
set_option maxRecDepth 100000 in
set_option maxHeartbeats 3200000 in
theorem DFits_w (hN : Nod w x f (.slice A n c) (.slice B m d)) (hm : many x ≤ 70368744177664) :
    Calls Tryz.prog 84 #[.int .i64 g, .agg #[.bool f, .slice A n c, .slice B m d]] w (ToldB w (fun b => (∀ j, j < many x → EOk x j) → b = nfit g x)) := by
  have HO : Hid (Only (w.heap.size ≤ ·) w (w.alloc (.cells #[.bool f, .slice A n c, .slice B m d] 35))) := (Only.refl _ w).alloc (fun _ h => h) _
  have HI : Hid (Blk (w.alloc (.cells #[.bool f, .slice A n c, .slice B m d] 35)) w.heap.size 35 [.bool f, .slice A n c, .slice B m d]) := Blk.new w 35 _
  obtain ⟨v, hv⟩ : ∃ v, v = tr g 248 240 240 := ⟨_, rfl⟩
  have HM : Hid (∀ W, Only (w.heap.size ≤ ·) w W → Calls Tryz.prog 103 #[.agg #[.bool f, .slice A n c, .slice B m d]] W (Told W (.int .i64 (many x : Nat)))) := fun W hW => DMany_c W f A B n c m d x (hN.later hW)
  have HR : Hid (∀ W, Only (w.heap.size ≤ ·) w W → Calls Tryz.prog 102 #[.int .i64 g, .agg #[.bool f, .slice A n c, .slice B m d], .int .i64 (many x : Nat)] W (ToldI W (fun t => (∀ j, j < many x → EOk x j) → t = nrm g x))) := fun W hW => by
    have h := DRoom_w W f A B n c m d x g (many x) (hN.later hW) hm (Nat.le_refl _)
    rw [show pre (rms g x) (many x) = nrm g x by rw [← rms_length g x, pre_all]; rfl] at h
    exact h
  have HV : Hid (∀ W, Calls Tryz.prog 22 #[.int .i64 g] W fun e w' => e = .returned (.int .i64 v) ∧ W = w') := fun W => by rw [hv]; exact rCap_c W g
  have HVE := Lib.hid hv
  have KP : Hid (∀ w' : World, Only ((w.alloc (.cells #[.bool f, .slice A n c, .slice B m d] 35)).heap.size ≤ ·) (w.alloc (.cells #[.bool f, .slice A n c, .slice B m d] 35)) w' → (w'.cell? ⟨w.heap.size, 0, none⟩ = some (.bool f) ∧ w'.cell? ⟨w.heap.size, 1, none⟩ = some (.slice A n c) ∧ w'.cell? ⟨w.heap.size, 2, none⟩ = some (.slice B m d))) := fun W hW => (HI.out.later hW).tri
  clear hv hN
  go_enter Tryz.func84, Tryz.ntmps84
  go_wp2_with (fail)
  have HOZ : Hid (Only ((w.alloc (.cells #[.bool f, .slice A n c, .slice B m d] 35)).heap.size ≤ ·) (w.alloc (.cells #[.bool f, .slice A n c, .slice B m d] 35)) (w.alloc (.cells #[.bool f, .slice A n c, .slice B m d] 35)).drew) := (Only.refl _ _).drew
  refine wp_region_held_drew (S := (fun w' => (w'.cell? ⟨w.heap.size, 0, none⟩ = some (.bool f) ∧ w'.cell? ⟨w.heap.size, 1, none⟩ = some (.slice A n c) ∧ w'.cell? ⟨w.heap.size, 2, none⟩ = some (.slice B m d)))) (by kernel_rfl) (KP.out _ HOZ.out) (fun hHeld => ?_)
  refine take_one (i := 0) (d := 5) (oi := ?_) (v := ?_) ?_ (by kernel_rfl) (by kernel_rfl) (by kernel_rfl) (fun _ _ _ h => h) ?_ ?_ ?_ (by assumption) ?_
  case refine_3 => (simp only [List.getElem?_toArray, List.getElem?_cons_zero]; rfl)
  case refine_4 => rfl
  case refine_5 => rfl
  case refine_6 => (intro w' hSw; (try dsimp only at hSw); go_simp; (try with_reducible rfl))
  simp only [Act.put, List.setIfInBounds_toArray, List.set_cons_zero, List.set_cons_succ]
  refine take_one (i := 1) (d := 6) (oi := ?_) (v := ?_) ?_ (by kernel_rfl) (by kernel_rfl) (by kernel_rfl) (fun _ _ _ h => h) ?_ ?_ ?_ (by assumption) ?_
  case refine_3 => (simp only [List.getElem?_toArray, List.getElem?_cons_succ, List.getElem?_cons_zero]; rfl)
  case refine_4 => rfl
  case refine_5 => rfl
  case refine_6 => (intro w' hSw; (try dsimp only at hSw); go_simp; (try with_reducible rfl))
  simp only [Act.put, List.setIfInBounds_toArray, List.set_cons_zero, List.set_cons_succ]
  refine take_one (i := 2) (d := 7) (oi := ?_) (v := ?_) ?_ (by kernel_rfl) (by kernel_rfl) (by kernel_rfl) (fun _ _ _ h => h) ?_ ?_ ?_ (by assumption) ?_
  case refine_3 => (simp only [List.getElem?_toArray, List.getElem?_cons_succ, List.getElem?_cons_zero]; rfl)
  case refine_4 => rfl
  case refine_5 => rfl
  case refine_6 => (intro w' hSw; (try dsimp only at hSw); go_simp; (try with_reducible rfl))
  simp only [Act.put, List.setIfInBounds_toArray, List.set_cons_zero, List.set_cons_succ]
  refine take_one (i := 5) (d := 10) (oi := ?_) (v := ?_) ?_ (by kernel_rfl) (by kernel_rfl) (by kernel_rfl) (fun _ _ _ h => h) ?_ ?_ ?_ (by assumption) ?_
  case refine_3 => (simp only [List.getElem?_toArray, List.getElem?_cons_succ, List.getElem?_cons_zero]; rfl)
  case refine_4 => rfl
  case refine_5 => rfl
  case refine_6 => (intro w' hSw; (try dsimp only at hSw); go_simp; (try with_reducible rfl))
  simp only [Act.put, List.setIfInBounds_toArray, List.set_cons_zero, List.set_cons_succ]
  refine wpAnyH_ready (rs := [3]) (by kernel_rfl) (by simp) ?_
  refine AllReadyH.cons (o := ?_) ?_ (fun K hK => ?_) AllReadyH.nil
  case refine_2 => (simp only [List.getElem?_toArray, List.getElem?_cons_succ, List.getElem?_cons_zero]; rfl)
  go_simp
  (go_at_call 103; (with_reducible refine (HM.out _ (HO.out.trans (HOZ.out.mono fun k h => Nat.le_trans HO.out.size h))).mono ?_); rintro e w1 ⟨rfl, ho⟩; (replace HOZ := Lib.hid (on_new HOZ.out ho)); clear ho)
  go_wp2_with (fail)
  refine hK.out _ _ (KP.out _ HOZ.out) (fun hHeld => ?_)
  clear hK K
  try simp only [Act.put, List.setIfInBounds_toArray, List.set_cons_zero, List.set_cons_succ]
  refine wpAnyH_ready (rs := [4]) (by kernel_rfl) (by simp) ?_
  refine AllReadyH.cons (o := ?_) ?_ (fun K hK => ?_) AllReadyH.nil
  case refine_2 => (simp only [List.getElem?_toArray, List.getElem?_cons_succ, List.getElem?_cons_zero]; rfl)
  go_simp
  (go_at_call 102; (with_reducible refine (HR.out _ (HO.out.trans (HOZ.out.mono fun k h => Nat.le_trans HO.out.size h))).mono ?_); rintro e w2 ⟨t, rfl, ht, ho⟩; have HT := Lib.hid ht; clear ht; (replace HOZ := Lib.hid (on_new HOZ.out ho)); clear ho)
  go_wp2_with (fail)
  refine hK.out _ _ (KP.out _ HOZ.out) (fun hHeld => ?_)
  clear hK K
  try simp only [Act.put, List.setIfInBounds_toArray, List.set_cons_zero, List.set_cons_succ]
  refine wpAnyH_ready (rs := [6]) (by kernel_rfl) (by simp) ?_
  refine AllReadyH.cons (o := ?_) ?_ (fun K hK => ?_) AllReadyH.nil
  case refine_2 => (simp only [List.getElem?_toArray, List.getElem?_cons_succ, List.getElem?_cons_zero]; rfl)
  go_simp
  (go_at_call 22; (with_reducible refine (HV.out _).mono ?_); rintro e w3 ⟨rfl, rfl⟩)
  go_wp2_with (fail)
  refine hK.out _ _ (KP.out _ HOZ.out) (fun hHeld => ?_)
  clear hK K
  try simp only [Act.put, List.setIfInBounds_toArray, List.set_cons_zero, List.set_cons_succ]
  refine take_one (i := 7) (d := 12) (oi := ?_) (v := ?_) ?_ (by kernel_rfl) (by kernel_rfl) (by kernel_rfl) (fun _ _ _ h => h) ?_ ?_ ?_ (by assumption) ?_
  case refine_3 => (simp only [List.getElem?_toArray, List.getElem?_cons_succ, List.getElem?_cons_zero]; rfl)
  case refine_4 => rfl
  case refine_5 => rfl
  case refine_6 => (intro w' hSw; (try dsimp only at hSw); go_simp; (try with_reducible rfl))
  simp only [Act.put, List.setIfInBounds_toArray, List.set_cons_zero, List.set_cons_succ]
  refine take_one (i := 8) (d := 4) (oi := ?_) (v := ?_) ?_ (by kernel_rfl) (by kernel_rfl) (by kernel_rfl) (fun _ _ _ h => h) ?_ ?_ ?_ (by assumption) ?_
  case refine_3 => (simp only [List.getElem?_toArray, List.getElem?_cons_succ, List.getElem?_cons_zero]; rfl)
  case refine_4 => rfl
  case refine_5 => rfl
  case refine_6 => (intro w' hSw; (try dsimp only at hSw); go_simp; (try with_reducible rfl))
  simp only [Act.put, List.setIfInBounds_toArray, List.set_cons_zero, List.set_cons_succ]
  refine wpAnyH_done (by kernel_rfl) ?_ _
  go_wp2
  go_ret
  exact ⟨_, rfl, fun hE => by rw [HT.out hE, HVE.out]; rfl, HO.out.trans (HOZ.out.mono fun k h => Nat.le_trans HO.out.size h)⟩
end
end Go.Proofs.YtoghojgajpfkkaaGreatDoor
