/-
  NodeParts: the walk.
-/
import Derived.Test.YtjbbljnfgpggkaaDoorSem
import Derived.Test.YtjbbljnfgpggkaaDoorPts
import Derived.Test.YtjbbljnfgpggkaaDoorDpt
import Derived.Test.YtjbbljnfgpggkaaDoorJon
import Derived.Test.YtjbbljnfgpggkaaDoorFre
import Derived.Test.YtjbbljnfgpggkaaDoorStp
import Derived.RegionTactic
import Derived.BigRegion
import Derived.Deep.CutRange
set_option linter.unusedVariables false
namespace Go.Proofs.YtjbbljnfgpggkaaDoor
open Go.RowKit

/-- The first pieces, joined. -/
def jn (l : List Pt) (k : Nat) : Nd := match l with
  | [] => ⟨true, [], []⟩
  | p :: r => joins p.2 (r.take (k - 1))
theorem jn_zero {l : List Pt} {p : Pt} (h : l[0]? = some p) : jn l 0 = p.2 ∧ jn l 1 = p.2 := by
  cases l with
  | nil => simp at h
  | cons q r =>
    simp at h
    subst h
    exact ⟨rfl, rfl⟩
theorem jn_succ {l : List Pt} {p : Pt} {k : Nat} (hk : 0 < k) (h : l[k]? = some p) : jn l (k + 1) = joinN (jn l k) p.2 p.1 := by
  cases l with
  | nil => simp at h
  | cons q r =>
    obtain ⟨m, rfl⟩ : ∃ m, k = m + 1 := ⟨k - 1, by omega⟩
    simp only [List.getElem?_cons_succ] at h
    show joins q.2 (r.take (m + 1)) = joinN (joins q.2 (r.take m)) p.2 p.1
    rw [List.take_add_one, h]
    unfold joins
    rw [List.foldl_append]
    rfl
theorem jn_all {g : Int} {key : Bytes} {x : Nd} {l : List Pt} (h : Cuts g key x l) (hp : Pure x) : jn l l.length = x := by
  obtain ⟨y, r, rfl⟩ := h.head
  have := h.joined hp y r rfl
  show joins y (r.take ((r.length + 1) - 1)) = x
  rw [Nat.add_sub_cancel, List.take_length]
  exact this
theorem headK_len (key : Bytes) (l : List Kd) : (headK key l).length = l.length := headK_length key l
theorem joins_len {b : Nat} : ∀ (l : List Pt) (a : Nd), (∀ p ∈ l, p.2.its.length ≤ b ∧ p.2.kds.length ≤ b) → (joins a l).its.length ≤ a.its.length + l.length * b ∧ (joins a l).kds.length ≤ a.kds.length + l.length * b
  | [], a, _ => by simp [joins]
  | p :: l, a, h => by
    have h1 := h p (by simp)
    have h2 := joins_len l (joinN a p.2 p.1) fun q hq => h q (List.mem_cons_of_mem _ hq)
    have e : joins a (p :: l) = joins (joinN a p.2 p.1) l := rfl
    have e2 : (joinN a p.2 p.1).its.length ≤ a.its.length + b ∧ (joinN a p.2 p.1).kds.length ≤ a.kds.length + b := by
      unfold joinN
      split
      · simp
        omega
      · simp [headK_length]
        omega
    rw [e, List.length_cons, Nat.succ_mul]
    omega
theorem sixty {y : Nd} (h : y.its.length ≤ 60 ∧ y.kds.length ≤ 60) (k : Nat) : ((fstN k y).its.length ≤ 60 ∧ (fstN k y).kds.length ≤ 60) ∧ (sndN k y).its.length ≤ 60 ∧ (sndN k y).kds.length ≤ 60 := by
  unfold fstN sndN
  split <;> simp [headK_length] <;> omega
theorem jn_len {l : List Pt} {k : Nat} (hl : l.length ≤ 120) (h : ∀ p ∈ l, p.2.its.length ≤ 60 ∧ p.2.kds.length ≤ 60) : (jn l k).its.length ≤ 10000 ∧ (jn l k).kds.length ≤ 10000 := by
  cases l with
  | nil => simp [jn]
  | cons q r =>
    have h1 := h q (by simp)
    have h2 := joins_len (r.take (k - 1)) q.2 fun p hp => h p (List.mem_cons_of_mem _ (List.mem_of_mem_take hp))
    have h3 : (r.take (k - 1)).length ≤ 120 := by simp at hl ⊢; omega
    have h4 : (r.take (k - 1)).length * 60 ≤ 120 * 60 := Nat.mul_le_mul_right _ h3
    show (joins q.2 (r.take (k - 1))).its.length ≤ _ ∧ (joins q.2 (r.take (k - 1))).kds.length ≤ _
    omega
theorem keyN_len {x : Nd} (hs : Small x) (k : Nat) : (keyN k x).length ≤ 1000 := by
  unfold keyN
  split
  · cases h : x.its[k]? with
    | none => simp
    | some i => simpa using (hs.2.2.1 i (List.mem_of_getElem? h)).1
  · cases h : x.kds[k]? with
    | none => simp
    | some i => simpa using hs.2.2.2 i (List.mem_of_getElem? h)
theorem Cuts.keys {g : Int} {key : Bytes} {x : Nd} {l : List Pt} (h : Cuts g key x l) : Small x → key.length ≤ 1000 → ∀ p ∈ l, p.1.length ≤ 1000 := by
  induction h with
  | one key x _ => intro _ hk p hp; simp at hp; rw [hp]; exact hk
  | cut key x k a b h1 h2 h3 h4 h5 ih1 ih2 =>
    intro hs hk p hp
    rw [List.mem_append] at hp
    rcases hp with hp | hp
    · exact ih1 (hs.halves k).1 hk p hp
    · exact ih2 (hs.halves k).2 (keyN_len hs k) p hp
/-- A node came back; its kind as a literal. -/
def GaveF (w : World) (f : Bool) (x : Nd) (e : Ending) (w' : World) : Prop := ∃ A n c B m d, e = .returned (.agg #[.bool f, .slice A n c, .slice B m d]) ∧ Nod w' x f (.slice A n c) (.slice B m d) ∧ Only (w.heap.size ≤ ·) w w'
theorem GaveN.toF {w : World} {f : Bool} {x : Nd} {e : Ending} {w' : World} (h : GaveN w x e w') (hf : f = x.leaf) : GaveF w f x e w' := by
  subst hf
  exact h
theorem old_f (w : World) (f : Bool) (A B : Option Addr) (n c m d : Nat) (x : Nd) (hf : f = x.leaf) (hN : Nod w x f (.slice A n c) (.slice B m d)) (hs : Small x) : Calls Tryd.prog 13 #[.agg #[.bool f, .slice A n c, .slice B m d]] w (GaveF w f x) :=
  (NOld_c w A B n c m d f x hN hs).mono fun _ _ h => h.toF hf

set_option maxRecDepth 100000 in
set_option maxHeartbeats 12800000 in
theorem parts_c (hal : ∀ W, Gens W → Calls Tryd.prog 7 #[] W (Told W (.bool true))) (w : World) (g : Int) (f : Bool) (A B : Option Addr) (n c m d : Nat) (x : Nd) (hN : Nod w x f (.slice A n c) (.slice B m d)) (hG : Gens w) :
    Calls Tryd.prog 3 #[.int .i64 g, .agg #[.bool f, .slice A n c, .slice B m d]] w (Told w (.bool true)) := by
  obtain ⟨W0, hW0⟩ : ∃ W0, W0 = w.alloc (.cells #[.bool f, .slice A n c, .slice B m d] 25) := ⟨_, rfl⟩
  have HO : Hid (Only (w.heap.size ≤ ·) w W0) := Lib.hid (by rw [hW0]; exact (Only.refl _ w).alloc (fun _ h => h) _)
  have HB : Hid (Blk W0 w.heap.size 25 [.bool f, .slice A n c, .slice B m d]) := Lib.hid (by rw [hW0]; exact Blk.new w 25 _)
  obtain ⟨b0, b1, b2⟩ := HB.out.tri
  have HN := Lib.hid hN
  have HAL : Hid (∀ W, Only (w.heap.size ≤ ·) w W → Calls Tryd.prog 7 #[] W (Told W (.bool true))) := Lib.hid fun W hW => hal W (hG.later hW)
  have HG := Lib.hid hG
  obtain ⟨q, hq⟩ : ∃ b : Bool, b = true ↔ Few x := ⟨@decide (Few x) (Classical.propDecidable _), @decide_eq_true_iff _ (Classical.propDecidable _)⟩
  have HF : Hid (∀ W, Only (w.heap.size ≤ ·) w W → Calls Tryd.prog 6 #[.agg #[.bool f, .slice A n c, .slice B m d]] W (Told W (.bool q))) := Lib.hid fun W hW => few_c W f A B n c m d x q hq (HN.out.later hW)
  have HQ := Lib.hid hq
  have hf := hN.1
  have hn := hN.2.1.len
  have hm := hN.2.2.len
  have hcn := hN.2.1.cap
  have hcm := hN.2.2.cap
  have HL := Lib.hid (And.intro hf (And.intro hn hm))
  clear hal hq hG hf hn hm
  go_enter Tryd.func3, Tryd.ntmps3
  go_upto_region 1 with (fail)
  rw [← hW0]
  have HW0 := Lib.hid hW0
  clear hW0
  cases q
  · go_wp2_with (first | (go_at_call 6; (with_reducible refine (HF.out _ HO.out).mono ?_); rintro ee W1 ⟨rfl, ho⟩; clear b0 b1 b2; (replace HO := Lib.hid (on_new HO.out ho)); (replace HB := Lib.hid (HB.out.later ho)); (obtain ⟨b0, b1, b2⟩ := HB.out.tri); clear ho) | (go_at_call 7; (with_reducible refine (HAL.out _ HO.out).mono ?_); rintro ee W9 ⟨rfl, ho⟩; clear b0 b1 b2; (replace HO := Lib.hid (on_new HO.out ho)); (replace HB := Lib.hid (HB.out.later ho)); (obtain ⟨b0, b1, b2⟩ := HB.out.tri); clear ho))
    go_ret
    exact ⟨rfl, HO.out⟩
  have HFW : Hid (Few x) := Lib.hid (HQ.out.1 rfl)
  clear HQ
  by_cases h1 : g < 1
  · go_wp2_with (first | (go_at_call 6; (with_reducible refine (HF.out _ HO.out).mono ?_); rintro ee W1 ⟨rfl, ho⟩; clear b0 b1 b2; (replace HO := Lib.hid (on_new HO.out ho)); (replace HB := Lib.hid (HB.out.later ho)); (obtain ⟨b0, b1, b2⟩ := HB.out.tri); clear ho) | (go_at_call 7; (with_reducible refine (HAL.out _ HO.out).mono ?_); rintro ee W9 ⟨rfl, ho⟩; clear b0 b1 b2; (replace HO := Lib.hid (on_new HO.out ho)); (replace HB := Lib.hid (HB.out.later ho)); (obtain ⟨b0, b1, b2⟩ := HB.out.tri); clear ho))
    go_ret
    exact ⟨rfl, HO.out⟩
  by_cases h3 : 3 < g
  · go_wp2_with (first | (go_at_call 6; (with_reducible refine (HF.out _ HO.out).mono ?_); rintro ee W1 ⟨rfl, ho⟩; clear b0 b1 b2; (replace HO := Lib.hid (on_new HO.out ho)); (replace HB := Lib.hid (HB.out.later ho)); (obtain ⟨b0, b1, b2⟩ := HB.out.tri); clear ho) | (go_at_call 7; (with_reducible refine (HAL.out _ HO.out).mono ?_); rintro ee W9 ⟨rfl, ho⟩; clear b0 b1 b2; (replace HO := Lib.hid (on_new HO.out ho)); (replace HB := Lib.hid (HB.out.later ho)); (obtain ⟨b0, b1, b2⟩ := HB.out.tri); clear ho))
    go_ret
    exact ⟨rfl, HO.out⟩
  cases f
  · by_cases h4 : 0 < n
    · have h4i : (0 : Int) < (n : Int) := by omega
      go_wp2_with (first | (go_at_call 6; (with_reducible refine (HF.out _ HO.out).mono ?_); rintro ee W1 ⟨rfl, ho⟩; clear b0 b1 b2; (replace HO := Lib.hid (on_new HO.out ho)); (replace HB := Lib.hid (HB.out.later ho)); (obtain ⟨b0, b1, b2⟩ := HB.out.tri); clear ho) | (go_at_call 7; (with_reducible refine (HAL.out _ HO.out).mono ?_); rintro ee W9 ⟨rfl, ho⟩; clear b0 b1 b2; (replace HO := Lib.hid (on_new HO.out ho)); (replace HB := Lib.hid (HB.out.later ho)); (obtain ⟨b0, b1, b2⟩ := HB.out.tri); clear ho))
      go_ret
      exact ⟨rfl, HO.out⟩
    obtain rfl : n = 0 := by omega
    by_cases h5 : 0 < m
    · have h5i : (0 : Int) < (m : Int) := by omega
      obtain ⟨kb, ko, y, P, p, rfl, hkb, hy, k0, _, _⟩ := kds_at HN.out.2.2 (k := 0) h5
      have HK : Hid (∀ W, Only (w.heap.size ≤ ·) w W → W.cell? ⟨kb, ko, none⟩ = some (.slice P y.1.length p)) := Lib.hid fun W hW => (hW.cell (p := ⟨kb, ko, none⟩) (Nat.not_le.2 hkb)).trans (by simpa using k0)
      clear k0 hkb hy
      by_cases h6 : 0 < y.1.length
      · have h6i : (0 : Int) < (y.1.length : Int) := by omega
        have h0 := HK.out _ HO.out
        go_wp2_with (first | (go_at_call 6; (with_reducible refine (HF.out _ HO.out).mono ?_); rintro ee W1 ⟨rfl, ho⟩; clear b0 b1 b2; (replace HO := Lib.hid (on_new HO.out ho)); (replace HB := Lib.hid (HB.out.later ho)); (obtain ⟨b0, b1, b2⟩ := HB.out.tri); clear ho; clear h0; have h0 := HK.out _ HO.out) | (go_at_call 7; (with_reducible refine (HAL.out _ HO.out).mono ?_); rintro ee W9 ⟨rfl, ho⟩; clear b0 b1 b2; (replace HO := Lib.hid (on_new HO.out ho)); (replace HB := Lib.hid (HB.out.later ho)); (obtain ⟨b0, b1, b2⟩ := HB.out.tri); clear ho))
        go_ret
        exact ⟨rfl, HO.out⟩
      · have h6i : ¬ (0 : Int) < (y.1.length : Int) := by omega
        have h0 := HK.out _ HO.out
        go_upto_region 3 with ((go_at_call 6; (with_reducible refine (HF.out _ HO.out).mono ?_); rintro ee W1 ⟨rfl, ho⟩; clear b0 b1 b2; (replace HO := Lib.hid (on_new HO.out ho)); (replace HB := Lib.hid (HB.out.later ho)); (obtain ⟨b0, b1, b2⟩ := HB.out.tri); clear ho; clear h0; have h0 := HK.out _ HO.out))
        clear h0
        have HSM := Lib.hid HFW.out.small
        have HPU : Hid (Pure x) := Lib.hid (by
          have h := HL.out
          unfold Pure
          rw [← h.1]
          first | exact List.eq_nil_of_length_eq_zero h.2.2.symm | exact List.eq_nil_of_length_eq_zero h.2.1.symm)
        have HM60 : Hid (many x ≤ 120) := Lib.hid (by have h := HFW.out; rw [HPU.out.many]; have := h.1; have := h.2.1; omega)
        have HSX : Hid (x.its.length ≤ 1000 ∧ x.kds.length ≤ 1000) := Lib.hid ⟨HSM.out.1, HSM.out.2.1⟩
        have HLF : Hid (false = x.leaf) := Lib.hid HL.out.1
        have HOF : Hid (∀ W, Only (w.heap.size ≤ ·) w W → Calls Tryd.prog 8 #[.agg #[.bool false, .slice A 0 c, .slice (some ⟨kb, ko, none⟩) m d]] W (GaveF W false x)) := Lib.hid fun W hW => (NOf_c W _ _ _ _ _ _ _ x (HN.out.later hW) HSM.out).mono fun e w' h => h.toF HLF.out
        go_upto_region 4 with (go_at_call 8; (with_reducible refine (HOF.out _ HO.out).mono ?_); rintro ee W2 ⟨QA, qn, qc, QB, qm, qd, rfl, hn2, ho⟩; have HN2 := Lib.hid hn2; clear hn2 b0 b1 b2; (replace HO := Lib.hid (on_new HO.out ho)); (replace HB := Lib.hid (HB.out.later ho)); (obtain ⟨b0, b1, b2⟩ := HB.out.tri); clear ho)
        obtain ⟨wa, hwa⟩ : ∃ wa, wa = W2.alloc (.cells #[.bool false, .slice QA qn qc, .slice QB qm qd] 34) := ⟨_, rfl⟩
        have hBx : Blk wa W2.heap.size 34 [.bool false, .slice QA qn qc, .slice QB qm qd] := by rw [hwa]; exact Blk.new W2 34 _
        have hoa : Only (W2.heap.size ≤ ·) W2 wa := by rw [hwa]; exact (Only.refl _ W2).alloc (fun _ h => h) _
        rw [← hwa]
        replace HB := Lib.hid (HB.out.later hoa)
        replace HO := Lib.hid (on_new HO.out hoa)
        replace HN2 := Lib.hid (HN2.out.later hoa)
        have HX := Lib.hid hBx
        clear hwa hBx hoa b0 b1 b2 HOF
        have KX : Hid (∀ W, Only (wa.heap.size ≤ ·) wa W → W.cell? ⟨W2.heap.size, 0, none⟩ = some (.bool false) ∧ W.cell? ⟨W2.heap.size, 1, none⟩ = some (.slice QA qn qc) ∧ W.cell? ⟨W2.heap.size, 2, none⟩ = some (.slice QB qm qd) ∧ W.cell? ⟨w.heap.size, 0, none⟩ = some (.bool false) ∧ W.cell? ⟨w.heap.size, 1, none⟩ = some (.slice A 0 c) ∧ W.cell? ⟨w.heap.size, 2, none⟩ = some (.slice (some ⟨kb, ko, none⟩) m d)) := Lib.hid fun W hW => ⟨(HX.out.later hW).tri.1, (HX.out.later hW).tri.2.1, (HX.out.later hW).tri.2.2, (HB.out.later hW).tri⟩
        have HOZ : Hid (Only (wa.heap.size ≤ ·) wa wa.drew) := Lib.hid (Only.refl _ wa).drew
        refine wp_region_list (B := [false, false, false, false, false, false, false, false]) (S := (fun W => W.cell? ⟨W2.heap.size, 0, none⟩ = some (.bool false) ∧ W.cell? ⟨W2.heap.size, 1, none⟩ = some (.slice QA qn qc) ∧ W.cell? ⟨W2.heap.size, 2, none⟩ = some (.slice QB qm qd) ∧ W.cell? ⟨w.heap.size, 0, none⟩ = some (.bool false) ∧ W.cell? ⟨w.heap.size, 1, none⟩ = some (.slice A 0 c) ∧ W.cell? ⟨w.heap.size, 2, none⟩ = some (.slice (some ⟨kb, ko, none⟩) m d))) (by kernel_rfl) (by kernel_rfl) (by kernel_rfl) (KX.out _ HOZ.out) (fun hsel hHeld => ?_)
        obtain ⟨wz, hwz⟩ : ∃ wz, wz = wa.drew := ⟨_, rfl⟩
        rw [← hwz] at HOZ hHeld
        rw [← hwz]
        clear hwz
        refine take_oneL (i := 0) (d := 61) (oi := ?_) (v := ?_) ?_ hsel (by kernel_rfl) (by kernel_rfl) (fun _ _ _ h => h) ?_ ?_ ?_ (by assumption) ?_
        case refine_3 => (simp only [List.getElem?_cons_zero]; rfl)
        case refine_4 => rfl
        case refine_5 => rfl
        case refine_6 => (intro w' hSw; (try dsimp only at hSw); go_simp; (try with_reducible rfl))
        simp only [Act.put, List.setIfInBounds_toArray, List.set_cons_zero, List.set_cons_succ]
        refine take_oneL (i := 1) (d := 62) (oi := ?_) (v := ?_) ?_ hsel (by kernel_rfl) (by kernel_rfl) (fun _ _ _ h => h) ?_ ?_ ?_ (by assumption) ?_
        case refine_3 => (simp only [List.getElem?_cons_succ, List.getElem?_cons_zero]; rfl)
        case refine_4 => rfl
        case refine_5 => rfl
        case refine_6 => (intro w' hSw; (try dsimp only at hSw); go_simp; (try with_reducible rfl))
        simp only [Act.put, List.setIfInBounds_toArray, List.set_cons_zero, List.set_cons_succ]
        refine take_oneL (i := 3) (d := 64) (oi := ?_) (v := ?_) ?_ hsel (by kernel_rfl) (by kernel_rfl) (fun _ _ _ h => h) ?_ ?_ ?_ (by assumption) ?_
        case refine_3 => (simp only [List.getElem?_cons_succ, List.getElem?_cons_zero]; rfl)
        case refine_4 => rfl
        case refine_5 => rfl
        case refine_6 => (intro w' hSw; (try dsimp only at hSw); go_simp; (try with_reducible rfl))
        simp only [Act.put, List.setIfInBounds_toArray, List.set_cons_zero, List.set_cons_succ]
        refine take_oneL (i := 4) (d := 65) (oi := ?_) (v := ?_) ?_ hsel (by kernel_rfl) (by kernel_rfl) (fun _ _ _ h => h) ?_ ?_ ?_ (by assumption) ?_
        case refine_3 => (simp only [List.getElem?_cons_succ, List.getElem?_cons_zero]; rfl)
        case refine_4 => rfl
        case refine_5 => rfl
        case refine_6 => (intro w' hSw; (try dsimp only at hSw); go_simp; (try with_reducible rfl))
        simp only [Act.put, List.setIfInBounds_toArray, List.set_cons_zero, List.set_cons_succ]
        refine wpAnyL_ready (rs := [2]) (by kernel_rfl) (by kernel_rfl) (by simp) ?_
        refine AllReadyL.cons (o := ?_) ?_ (fun K hK => ?_) AllReadyL.nil
        case refine_2 => (simp only [List.getElem?_cons_succ, List.getElem?_cons_zero]; rfl)
        go_simp
        (go_at_call 9; (with_reducible refine (Parts_n _ false _ _ _ _ _ _ x g (HN2.out.later HOZ.out) (HG.out.later (on_new HO.out HOZ.out)) HSM.out).mono ?_); rintro ee W3 ⟨PA, pn, pc, l, rfl, hcu, hpt, ho⟩; have HCU := Lib.hid hcu; have HP := Lib.hid hpt; clear hcu hpt; (replace HOZ := Lib.hid (on_new HOZ.out ho)); clear ho)
        go_wp2_with (fail)
        clear hHeld
        refine hK.out _ _ (KX.out _ HOZ.out) (fun hHeld => ?_)
        clear hK K
        try simp only [Act.put, List.setIfInBounds_toArray, List.set_cons_zero, List.set_cons_succ]
        refine wpAnyL_ready (rs := [5]) (by kernel_rfl) (by kernel_rfl) (by simp) ?_
        refine AllReadyL.cons (o := ?_) ?_ (fun K hK => ?_) AllReadyL.nil
        case refine_2 => (simp only [List.getElem?_cons_succ, List.getElem?_cons_zero]; rfl)
        go_simp
        (go_at_call 10; (with_reducible refine (DParts_c g (many x) _ (fun _ => False) false none _ _ 0 0 _ _ _ _ [] x (Nat.le_refl _) HSM.out (fun k h => h.elim) (HN.out.later (on_new HO.out HOZ.out)).snod rfl (Src.nil_ _).stab).mono ?_); rintro ee W4 ⟨WA, wn, wc, l2, C2, rfl, hcu2, hwn, hown, hden, ho⟩; (obtain rfl := Cuts.uniq HCU.out hcu2); (replace HP := Lib.hid (HP.out.later ho)); have HW : Hid (Pts W4 (.slice WA wn wc) l) := Lib.hid (Own.rw_ ⟨hwn, C2, hden.now, hown⟩); clear hcu2 hwn hown hden; (replace HOZ := Lib.hid (on_new HOZ.out ho)); clear ho)
        go_wp2_with (fail)
        clear hHeld
        refine hK.out _ _ (KX.out _ HOZ.out) (fun hHeld => ?_)
        clear hK K
        try simp only [Act.put, List.setIfInBounds_toArray, List.set_cons_zero, List.set_cons_succ]
        refine take_oneL (i := 6) (d := 6) (oi := ?_) (v := ?_) ?_ hsel (by kernel_rfl) (by kernel_rfl) (fun _ _ _ h => h) ?_ ?_ ?_ (by assumption) ?_
        case refine_3 => (simp only [List.getElem?_cons_succ, List.getElem?_cons_zero]; rfl)
        case refine_4 => rfl
        case refine_5 => rfl
        case refine_6 => (intro w' hSw; (try dsimp only at hSw); go_simp; (try with_reducible rfl))
        simp only [Act.put, List.setIfInBounds_toArray, List.set_cons_zero, List.set_cons_succ]
        refine take_oneL (i := 7) (d := 7) (oi := ?_) (v := ?_) ?_ hsel (by kernel_rfl) (by kernel_rfl) (fun _ _ _ h => h) ?_ ?_ ?_ (by assumption) ?_
        case refine_3 => (simp only [List.getElem?_cons_succ, List.getElem?_cons_zero]; rfl)
        case refine_4 => rfl
        case refine_5 => rfl
        case refine_6 => (intro w' hSw; (try dsimp only at hSw); go_simp; (try with_reducible rfl))
        simp only [Act.put, List.setIfInBounds_toArray, List.set_cons_zero, List.set_cons_succ]
        refine wpAnyL_done (by kernel_rfl) (by kernel_rfl) ?_ _
        clear hsel hHeld
        replace HO := Lib.hid (on_new HO.out HOZ.out)
        replace HB := Lib.hid (HB.out.later HOZ.out)
        replace HX := Lib.hid (HX.out.later HOZ.out)
        have HNX := Lib.hid (HN2.out.later HOZ.out)
        clear KX HOZ HN2
        obtain rfl : pn = l.length := HP.out.len
        obtain rfl : wn = l.length := HW.out.len
        have hpc := HP.out.cap
        have hwc := HW.out.cap
        have HLE : Hid (l.length ≤ 120 ∧ 0 < l.length) := Lib.hid ⟨by have := HCU.out.most; have := HM60.out; omega, HCU.out.pos⟩
        have hl120 := HLE.out.1
        have hl0 : (0 : Int) < (l.length : Int) := by have := HLE.out.2; omega
        have hl00 : ((l.length : Int) == 0) = false := by have := HLE.out.2; rw [beq_eq_false_iff_ne]; omega
        have HSALL : Hid (∀ p ∈ l, Small p.2) := Lib.hid (HCU.out.all (fun y k h _ _ => h.halves k) HSM.out)
        have HALL : Hid (∀ p ∈ l, p.2.its.length ≤ 60 ∧ p.2.kds.length ≤ 60) := Lib.hid (HCU.out.all (P := fun y => y.its.length ≤ 60 ∧ y.kds.length ≤ 60) (fun y k h _ _ => sixty h k) ⟨HFW.out.1, HFW.out.2.1⟩)
        have HKEYS : Hid (∀ p ∈ l, p.1.length ≤ 1000) := Lib.hid (HCU.out.keys HSM.out (by simp))
        obtain ⟨pb, po, y0, P1, Q1, R1, p1, q1, r1, rfl, hpb, hy0, c0, c1, c2, c3, _, n0⟩ := pts_at HP.out (k := 0) HLE.out.2
        simp only [Nat.zero_mul, Nat.add_zero] at c0 c1 c2 c3
        have HN0 := Lib.hid n0
        have HY0 := Lib.hid hy0
        clear n0 hy0 hpb
        go_wp2
        obtain ⟨we, hwe⟩ : ∃ we, we = W4.alloc (.cells #[.bool y0.2.leaf, .slice Q1 y0.2.its.length q1, .slice R1 y0.2.kds.length r1] 34) := ⟨_, rfl⟩
        have hBa : Blk we W4.heap.size 34 [.bool y0.2.leaf, .slice Q1 y0.2.its.length q1, .slice R1 y0.2.kds.length r1] := by rw [hwe]; exact Blk.new W4 34 _
        have hue : Only (W4.heap.size ≤ ·) W4 we := by rw [hwe]; exact (Only.refl _ W4).alloc (fun _ h => h) _
        have HA0 : Hid (Blk we W4.heap.size 34 [.bool y0.2.leaf, .slice Q1 y0.2.its.length q1, .slice R1 y0.2.kds.length r1] ∧ SNod (· = W4.heap.size) we (jn l 0) y0.2.leaf (.slice Q1 y0.2.its.length q1) (.slice R1 y0.2.kds.length r1) ∧ Only (W4.heap.size ≤ ·) W4 we) := Lib.hid ⟨hBa, by rw [(jn_zero HY0.out).1]; exact nod_free hBa (HN0.out.later hue), hue⟩
        rw [← hwe]
        clear hwe hBa hue HN0 c0 c1 c2 c3
        go_loopw [83] (fun i wr => ∃ (k : Nat) (lf : Bool) (A' B' : Option Addr) (n' c' m' d' : Nat), k ≤ l.length ∧ i = .int .i64 k ∧ Hid (Blk wr W4.heap.size 34 [.bool lf, .slice A' n' c', .slice B' m' d'] ∧ SNod (· = W4.heap.size) wr (jn l k) lf (.slice A' n' c') (.slice B' m' d') ∧ Only (W4.heap.size ≤ ·) W4 wr)) (fun i _ => l.length - (intOf i).toNat)
        case atStart => exact ⟨0, _, _, _, _, _, _, _, Nat.zero_le _, rfl, HA0⟩
        case round =>
          clear HA0 HY0
          obtain ⟨k, lf, A', B', n', c', m', d', hk, rfl, HA⟩ := hrel
          by_cases hlt : k < l.length
          · have hlti : (k : Int) < (l.length : Int) := by omega
            obtain ⟨pb', po', y, P3, Q3, R3, p3, q3, r3, e3, hpb, hy, c0, c1, c2, c3, s3, n3⟩ := pts_at (HP.out.later HA.out.2.2) hlt
            cases e3
            obtain ⟨vb, vo, y', V1, V2, V3, v1, v2, v3, rfl, hvb, hy', d0, d1, d2, d3, s4, n4⟩ := pts_at (HW.out.later HA.out.2.2) hlt
            obtain rfl : y = y' := Option.some.inj (hy.symm.trans hy')
            have HYK := Lib.hid hy
            have hyl : y ∈ l := List.mem_of_getElem? hy
            have HSY := Lib.hid (HSALL.out y hyl)
            have HSN : Hid (y.2.its.length ≤ 1000 ∧ y.2.kds.length ≤ 1000) := Lib.hid ⟨HSY.out.1, HSY.out.2.1⟩
            have HKL := Lib.hid (HKEYS.out y hyl)
            have HFT := Lib.hid (HCU.out.fits y hyl)
            have HPY := Lib.hid (HCU.out.pures HPU.out y hyl)
            have HDV : Hid (∀ W, Only (wr.heap.size ≤ ·) wr W → W.cell? ⟨vb, vo + k * 4, none⟩ = some (.slice V1 y.1.length v1) ∧ W.cell? ⟨vb, vo + k * 4 + 1, none⟩ = some (.bool y.2.leaf) ∧ W.cell? ⟨vb, vo + k * 4 + 2, none⟩ = some (.slice V2 y.2.its.length v2) ∧ W.cell? ⟨vb, vo + k * 4 + 3, none⟩ = some (.slice V3 y.2.kds.length v3)) := Lib.hid fun W hW => ⟨(hW.cell (p := ⟨vb, vo + k * 4, none⟩) (Nat.not_le.2 hvb)).trans d0, (hW.cell (p := ⟨vb, vo + k * 4 + 1, none⟩) (Nat.not_le.2 hvb)).trans d1, (hW.cell (p := ⟨vb, vo + k * 4 + 2, none⟩) (Nat.not_le.2 hvb)).trans d2, (hW.cell (p := ⟨vb, vo + k * 4 + 3, none⟩) (Nat.not_le.2 hvb)).trans d3⟩
            have HS3 := Lib.hid s3
            have HS4 := Lib.hid s4
            have HN3 := Lib.hid n3
            have HN4 := Lib.hid n4
            clear hy hy' hyl hpb hvb d0 d1 d2 d3 s3 s4 n3 n4
            go_upto_region 11 with (fail)
            obtain ⟨wp, hwp⟩ : ∃ wp, wp = wr.alloc (.cells #[.slice P3 y.1.length p3, .bool y.2.leaf, .slice Q3 y.2.its.length q3, .slice R3 y.2.kds.length r3] 41) := ⟨_, rfl⟩
            have hBp : Blk wp wr.heap.size 41 [.slice P3 y.1.length p3, .bool y.2.leaf, .slice Q3 y.2.its.length q3, .slice R3 y.2.kds.length r3] := by rw [hwp]; exact Blk.new wr 41 _
            have hop : Only (wr.heap.size ≤ ·) wr wp := by rw [hwp]; exact (Only.refl _ wr).alloc (fun _ h => h) _
            rw [← hwp]
            have HBP := Lib.hid hBp
            have HAP : Hid (Blk wp W4.heap.size 34 [.bool lf, .slice A' n' c', .slice B' m' d'] ∧ SNod (· = W4.heap.size) wp (jn l k) lf (.slice A' n' c') (.slice B' m' d') ∧ Only (W4.heap.size ≤ ·) W4 wp) := Lib.hid ⟨HA.out.1.later hop, HA.out.2.1.later hop, on_new HA.out.2.2 hop⟩
            have HOP := Lib.hid (on_new HO.out HAP.out.2.2)
            have HSK := Lib.hid (HS3.out.later hop)
            have HSV := Lib.hid (HS4.out.later hop)
            have HNY := Lib.hid (HN3.out.later hop)
            have HNV := Lib.hid (HN4.out.later hop)
            have KP : Hid (∀ W, Only (wp.heap.size ≤ ·) wp W → W.cell? ⟨wr.heap.size, 0, none⟩ = some (.slice P3 y.1.length p3) ∧ W.cell? ⟨wr.heap.size, 1, none⟩ = some (.bool y.2.leaf) ∧ W.cell? ⟨wr.heap.size, 2, none⟩ = some (.slice Q3 y.2.its.length q3) ∧ W.cell? ⟨wr.heap.size, 3, none⟩ = some (.slice R3 y.2.kds.length r3) ∧ W.cell? ⟨vb, vo + k * 4, none⟩ = some (.slice V1 y.1.length v1) ∧ W.cell? ⟨vb, vo + k * 4 + 1, none⟩ = some (.bool y.2.leaf) ∧ W.cell? ⟨vb, vo + k * 4 + 2, none⟩ = some (.slice V2 y.2.its.length v2) ∧ W.cell? ⟨vb, vo + k * 4 + 3, none⟩ = some (.slice V3 y.2.kds.length v3)) := Lib.hid fun W hW => ⟨(HBP.out.later hW).cell 0, (HBP.out.later hW).cell 1, (HBP.out.later hW).cell 2, (HBP.out.later hW).cell 3, HDV.out W (on_new hop hW)⟩
            have HOZ : Hid (Only (wp.heap.size ≤ ·) wp wp.drew) := Lib.hid (Only.refl _ wp).drew
            clear hwp hBp hop HS3 HS4 HN3 HN4 c0 c1 c2 c3
            obtain ⟨my, hmy⟩ : ∃ my, my = many y.2 := ⟨_, rfl⟩
            have hms : my = y.2.its.length + y.2.kds.length := by rw [hmy]; exact HPY.out.many
            have hw1 : IntKind.i64.wrap ((y.2.its.length : Int) + (y.2.kds.length : Int)) = (my : Int) := by have h1 := HSY.out.1; have h2 := HSY.out.2.1; rw [IntWalk.i64_in _ (by omega)]; omega
            have HMY := Lib.hid hmy
            clear hmy hms
            obtain ⟨b, hb⟩ : ∃ b, nfit g y.2 = b := ⟨_, rfl⟩
            have HBF := Lib.hid hb
            clear hb
            cases b
            · have hmy1 : ¬ (1 : Int) < (my : Int) := by
                have h := HFT.out
                rw [HBF.out] at h
                rcases h with h | h
                · cases h
                · have := HMY.out; omega
              refine wp_region_list (B := [false, false, false, false, false, false, false, false, false, false, false, false, false, false, false, false, false, false, false, false, false, false, false, false, false, false, false, false, false, false, false, false, false, false, false, false, false, false, false, false]) (S := (fun W => W.cell? ⟨wr.heap.size, 0, none⟩ = some (.slice P3 y.1.length p3) ∧ W.cell? ⟨wr.heap.size, 1, none⟩ = some (.bool y.2.leaf) ∧ W.cell? ⟨wr.heap.size, 2, none⟩ = some (.slice Q3 y.2.its.length q3) ∧ W.cell? ⟨wr.heap.size, 3, none⟩ = some (.slice R3 y.2.kds.length r3) ∧ W.cell? ⟨vb, vo + k * 4, none⟩ = some (.slice V1 y.1.length v1) ∧ W.cell? ⟨vb, vo + k * 4 + 1, none⟩ = some (.bool y.2.leaf) ∧ W.cell? ⟨vb, vo + k * 4 + 2, none⟩ = some (.slice V2 y.2.its.length v2) ∧ W.cell? ⟨vb, vo + k * 4 + 3, none⟩ = some (.slice V3 y.2.kds.length v3))) (by kernel_rfl) (by kernel_rfl) (by kernel_rfl) (KP.out _ HOZ.out) (fun hsel hHeld => ?_)
              obtain ⟨wq, hwq⟩ : ∃ wq, wq = wp.drew := ⟨_, rfl⟩
              rw [← hwq] at HOZ hHeld
              rw [← hwq]
              clear hwq
              refine take_oneL (i := 0) (d := 88) (oi := ?_) (v := ?_) ?_ hsel (by kernel_rfl) (by kernel_rfl) (fun _ _ _ h => h) ?_ ?_ ?_ (by assumption) ?_
              case refine_3 => (simp only [List.getElem?_cons_zero]; rfl)
              case refine_4 => rfl
              case refine_5 => rfl
              case refine_6 => (intro w' hSw; (try dsimp only at hSw); go_simp; (try with_reducible rfl))
              simp only [Act.put, List.setIfInBounds_toArray, List.set_cons_zero, List.set_cons_succ]
              refine take_oneL (i := 1) (d := 89) (oi := ?_) (v := ?_) ?_ hsel (by kernel_rfl) (by kernel_rfl) (fun _ _ _ h => h) ?_ ?_ ?_ (by assumption) ?_
              case refine_3 => (simp only [List.getElem?_cons_succ, List.getElem?_cons_zero]; rfl)
              case refine_4 => rfl
              case refine_5 => rfl
              case refine_6 => (intro w' hSw; (try dsimp only at hSw); go_simp; (try with_reducible rfl))
              simp only [Act.put, List.setIfInBounds_toArray, List.set_cons_zero, List.set_cons_succ]
              refine take_oneL (i := 2) (d := 90) (oi := ?_) (v := ?_) ?_ hsel (by kernel_rfl) (by kernel_rfl) (fun _ _ _ h => h) ?_ ?_ ?_ (by assumption) ?_
              case refine_3 => (simp only [List.getElem?_cons_succ, List.getElem?_cons_zero]; rfl)
              case refine_4 => rfl
              case refine_5 => rfl
              case refine_6 => (intro w' hSw; (try dsimp only at hSw); go_simp; (try with_reducible rfl))
              simp only [Act.put, List.setIfInBounds_toArray, List.set_cons_zero, List.set_cons_succ]
              refine take_oneL (i := 3) (d := 91) (oi := ?_) (v := ?_) ?_ hsel (by kernel_rfl) (by kernel_rfl) (fun _ _ _ h => h) ?_ ?_ ?_ (by assumption) ?_
              case refine_3 => (simp only [List.getElem?_cons_succ, List.getElem?_cons_zero]; rfl)
              case refine_4 => rfl
              case refine_5 => rfl
              case refine_6 => (intro w' hSw; (try dsimp only at hSw); go_simp; (try with_reducible rfl))
              simp only [Act.put, List.setIfInBounds_toArray, List.set_cons_zero, List.set_cons_succ]
              refine take_oneL (i := 4) (d := 92) (oi := ?_) (v := ?_) ?_ hsel (by kernel_rfl) (by kernel_rfl) (fun _ _ _ h => h) ?_ ?_ ?_ (by assumption) ?_
              case refine_3 => (simp only [List.getElem?_cons_succ, List.getElem?_cons_zero]; rfl)
              case refine_4 => rfl
              case refine_5 => rfl
              case refine_6 => (intro w' hSw; (try dsimp only at hSw); go_simp; (try with_reducible rfl))
              simp only [Act.put, List.setIfInBounds_toArray, List.set_cons_zero, List.set_cons_succ]
              refine take_oneL (i := 5) (d := 93) (oi := ?_) (v := ?_) ?_ hsel (by kernel_rfl) (by kernel_rfl) (fun _ _ _ h => h) ?_ ?_ ?_ (by assumption) ?_
              case refine_3 => (simp only [List.getElem?_cons_succ, List.getElem?_cons_zero]; rfl)
              case refine_4 => rfl
              case refine_5 => rfl
              case refine_6 => (intro w' hSw; (try dsimp only at hSw); go_simp; (try with_reducible rfl))
              simp only [Act.put, List.setIfInBounds_toArray, List.set_cons_zero, List.set_cons_succ]
              refine take_oneL (i := 6) (d := 94) (oi := ?_) (v := ?_) ?_ hsel (by kernel_rfl) (by kernel_rfl) (fun _ _ _ h => h) ?_ ?_ ?_ (by assumption) ?_
              case refine_3 => (simp only [List.getElem?_cons_succ, List.getElem?_cons_zero]; rfl)
              case refine_4 => rfl
              case refine_5 => rfl
              case refine_6 => (intro w' hSw; (try dsimp only at hSw); go_simp; (try with_reducible rfl))
              simp only [Act.put, List.setIfInBounds_toArray, List.set_cons_zero, List.set_cons_succ]
              refine wpAnyL_ready (rs := [7]) (by kernel_rfl) (by kernel_rfl) (by simp) ?_
              refine AllReadyL.cons (o := ?_) ?_ (fun K hK => ?_) AllReadyL.nil
              case refine_2 => (simp only [List.getElem?_cons_succ, List.getElem?_cons_zero]; rfl)
              go_simp
              (go_at_call 11; (with_reducible refine (Equal_b _ _ _ y.1 y.1 true (HSK.out.later HOZ.out) (HSV.out.later HOZ.out) (by simp)).mono ?_); rintro ee w7 ⟨rfl, rfl⟩)
              go_wp2_with (fail)
              clear hHeld
              refine hK.out _ _ (KP.out _ HOZ.out) (fun hHeld => ?_)
              clear hK K
              try simp only [Act.put, List.setIfInBounds_toArray, List.set_cons_zero, List.set_cons_succ]
              refine take_oneL (i := 8) (d := 96) (oi := ?_) (v := ?_) ?_ hsel (by kernel_rfl) (by kernel_rfl) (fun _ _ _ h => h) ?_ ?_ ?_ (by assumption) ?_
              case refine_3 => (simp only [List.getElem?_cons_succ, List.getElem?_cons_zero]; rfl)
              case refine_4 => rfl
              case refine_5 => rfl
              case refine_6 => (intro w' hSw; (try dsimp only at hSw); go_simp; (try with_reducible rfl))
              simp only [Act.put, List.setIfInBounds_toArray, List.set_cons_zero, List.set_cons_succ]
              refine take_oneL (i := 9) (d := 97) (oi := ?_) (v := ?_) ?_ hsel (by kernel_rfl) (by kernel_rfl) (fun _ _ _ h => h) ?_ ?_ ?_ (by assumption) ?_
              case refine_3 => (simp only [List.getElem?_cons_succ, List.getElem?_cons_zero]; rfl)
              case refine_4 => rfl
              case refine_5 => rfl
              case refine_6 => (intro w' hSw; (try dsimp only at hSw); go_simp; (try with_reducible rfl))
              simp only [Act.put, List.setIfInBounds_toArray, List.set_cons_zero, List.set_cons_succ]
              refine take_oneL (i := 10) (d := 98) (oi := ?_) (v := ?_) ?_ hsel (by kernel_rfl) (by kernel_rfl) (fun _ _ _ h => h) ?_ ?_ ?_ (by assumption) ?_
              case refine_3 => (simp only [List.getElem?_cons_succ, List.getElem?_cons_zero]; rfl)
              case refine_4 => rfl
              case refine_5 => rfl
              case refine_6 => (intro w' hSw; (try dsimp only at hSw); go_simp; (try with_reducible rfl))
              simp only [Act.put, List.setIfInBounds_toArray, List.set_cons_zero, List.set_cons_succ]
              refine take_oneL (i := 11) (d := 99) (oi := ?_) (v := ?_) ?_ hsel (by kernel_rfl) (by kernel_rfl) (fun _ _ _ h => h) ?_ ?_ ?_ (by assumption) ?_
              case refine_3 => (simp only [List.getElem?_cons_succ, List.getElem?_cons_zero]; rfl)
              case refine_4 => rfl
              case refine_5 => rfl
              case refine_6 => (intro w' hSw; (try dsimp only at hSw); go_simp; (try with_reducible rfl))
              simp only [Act.put, List.setIfInBounds_toArray, List.set_cons_zero, List.set_cons_succ]
              refine take_oneL (i := 13) (d := 101) (oi := ?_) (v := ?_) ?_ hsel (by kernel_rfl) (by kernel_rfl) (fun _ _ _ h => h) ?_ ?_ ?_ (by assumption) ?_
              case refine_3 => (simp only [List.getElem?_cons_succ, List.getElem?_cons_zero]; rfl)
              case refine_4 => rfl
              case refine_5 => rfl
              case refine_6 => (intro w' hSw; (try dsimp only at hSw); go_simp; (try with_reducible rfl))
              simp only [Act.put, List.setIfInBounds_toArray, List.set_cons_zero, List.set_cons_succ]
              refine take_oneL (i := 14) (d := 102) (oi := ?_) (v := ?_) ?_ hsel (by kernel_rfl) (by kernel_rfl) (fun _ _ _ h => h) ?_ ?_ ?_ (by assumption) ?_
              case refine_3 => (simp only [List.getElem?_cons_succ, List.getElem?_cons_zero]; rfl)
              case refine_4 => rfl
              case refine_5 => rfl
              case refine_6 => (intro w' hSw; (try dsimp only at hSw); go_simp; (try with_reducible rfl))
              simp only [Act.put, List.setIfInBounds_toArray, List.set_cons_zero, List.set_cons_succ]
              refine take_oneL (i := 15) (d := 103) (oi := ?_) (v := ?_) ?_ hsel (by kernel_rfl) (by kernel_rfl) (fun _ _ _ h => h) ?_ ?_ ?_ (by assumption) ?_
              case refine_3 => (simp only [List.getElem?_cons_succ, List.getElem?_cons_zero]; rfl)
              case refine_4 => rfl
              case refine_5 => rfl
              case refine_6 => (intro w' hSw; (try dsimp only at hSw); go_simp; (try with_reducible rfl))
              simp only [Act.put, List.setIfInBounds_toArray, List.set_cons_zero, List.set_cons_succ]
              refine take_oneL (i := 16) (d := 104) (oi := ?_) (v := ?_) ?_ hsel (by kernel_rfl) (by kernel_rfl) (fun _ _ _ h => h) ?_ ?_ ?_ (by assumption) ?_
              case refine_3 => (simp only [List.getElem?_cons_succ, List.getElem?_cons_zero]; rfl)
              case refine_4 => rfl
              case refine_5 => rfl
              case refine_6 => (intro w' hSw; (try dsimp only at hSw); go_simp; (try with_reducible rfl))
              simp only [Act.put, List.setIfInBounds_toArray, List.set_cons_zero, List.set_cons_succ]
              refine take_oneL (i := 17) (d := 105) (oi := ?_) (v := ?_) ?_ hsel (by kernel_rfl) (by kernel_rfl) (fun _ _ _ h => h) ?_ ?_ ?_ (by assumption) ?_
              case refine_3 => (simp only [List.getElem?_cons_succ, List.getElem?_cons_zero]; rfl)
              case refine_4 => rfl
              case refine_5 => rfl
              case refine_6 => (intro w' hSw; (try dsimp only at hSw); go_simp; (try with_reducible rfl))
              simp only [Act.put, List.setIfInBounds_toArray, List.set_cons_zero, List.set_cons_succ]
              refine wpAnyL_ready (rs := [12]) (by kernel_rfl) (by kernel_rfl) (by simp) ?_
              refine AllReadyL.cons (o := ?_) ?_ (fun K hK => ?_) AllReadyL.nil
              case refine_2 => (simp only [List.getElem?_cons_succ, List.getElem?_cons_zero]; rfl)
              go_simp
              (go_at_call 13; (with_reducible refine (NOld_c _ _ _ _ _ _ _ _ y.2 (HNY.out.later HOZ.out) HSY.out).mono ?_); rintro ee w8 ⟨OA, on, oc, OB, om, od, rfl, hno, ho⟩; (obtain rfl := hno.2.1.len); (obtain rfl := hno.2.2.len); have HNO := Lib.hid hno; clear hno; (replace HOZ := Lib.hid (on_new HOZ.out ho)); clear ho)
              go_wp2_with (fail)
              clear hHeld
              refine hK.out _ _ (KP.out _ HOZ.out) (fun hHeld => ?_)
              clear hK K
              try simp only [Act.put, List.setIfInBounds_toArray, List.set_cons_zero, List.set_cons_succ]
              refine wpAnyL_ready (rs := [18]) (by kernel_rfl) (by kernel_rfl) (by simp) ?_
              refine AllReadyL.cons (o := ?_) ?_ (fun K hK => ?_) AllReadyL.nil
              case refine_2 => (simp only [List.getElem?_cons_succ, List.getElem?_cons_zero]; rfl)
              go_simp
              (go_at_call 12; (with_reducible refine (DSame_eq _ _ _ _ _ _ _ _ _ _ _ _ y.2 HNO.out (HNV.out.later HOZ.out) HSN.out.1 HSN.out.2).mono ?_); rintro ee w9 ⟨rfl, ho⟩; (replace HOZ := Lib.hid (on_new HOZ.out ho)); clear ho)
              go_wp2_with (fail)
              clear hHeld
              refine hK.out _ _ (KP.out _ HOZ.out) (fun hHeld => ?_)
              clear hK K
              try simp only [Act.put, List.setIfInBounds_toArray, List.set_cons_zero, List.set_cons_succ]
              refine take_oneL (i := 19) (d := 107) (oi := ?_) (v := ?_) ?_ hsel (by kernel_rfl) (by kernel_rfl) (fun _ _ _ h => h) ?_ ?_ ?_ (by assumption) ?_
              case refine_3 => (simp only [List.getElem?_cons_succ, List.getElem?_cons_zero]; rfl)
              case refine_4 => rfl
              case refine_5 => rfl
              case refine_6 => (intro w' hSw; (try dsimp only at hSw); go_simp; (try with_reducible rfl))
              simp only [Act.put, List.setIfInBounds_toArray, List.set_cons_zero, List.set_cons_succ]
              refine take_oneL (i := 20) (d := 108) (oi := ?_) (v := ?_) ?_ hsel (by kernel_rfl) (by kernel_rfl) (fun _ _ _ h => h) ?_ ?_ ?_ (by assumption) ?_
              case refine_3 => (simp only [List.getElem?_cons_succ, List.getElem?_cons_zero]; rfl)
              case refine_4 => rfl
              case refine_5 => rfl
              case refine_6 => (intro w' hSw; (try dsimp only at hSw); go_simp; (try with_reducible rfl))
              simp only [Act.put, List.setIfInBounds_toArray, List.set_cons_zero, List.set_cons_succ]
              refine take_oneL (i := 21) (d := 109) (oi := ?_) (v := ?_) ?_ hsel (by kernel_rfl) (by kernel_rfl) (fun _ _ _ h => h) ?_ ?_ ?_ (by assumption) ?_
              case refine_3 => (simp only [List.getElem?_cons_succ, List.getElem?_cons_zero]; rfl)
              case refine_4 => rfl
              case refine_5 => rfl
              case refine_6 => (intro w' hSw; (try dsimp only at hSw); go_simp; (try with_reducible rfl))
              simp only [Act.put, List.setIfInBounds_toArray, List.set_cons_zero, List.set_cons_succ]
              refine take_oneL (i := 22) (d := 110) (oi := ?_) (v := ?_) ?_ hsel (by kernel_rfl) (by kernel_rfl) (fun _ _ _ h => h) ?_ ?_ ?_ (by assumption) ?_
              case refine_3 => (simp only [List.getElem?_cons_succ, List.getElem?_cons_zero]; rfl)
              case refine_4 => rfl
              case refine_5 => rfl
              case refine_6 => (intro w' hSw; (try dsimp only at hSw); go_simp; (try with_reducible rfl))
              simp only [Act.put, List.setIfInBounds_toArray, List.set_cons_zero, List.set_cons_succ]
              refine take_oneL (i := 23) (d := 111) (oi := ?_) (v := ?_) ?_ hsel (by kernel_rfl) (by kernel_rfl) (fun _ _ _ h => h) ?_ ?_ ?_ (by assumption) ?_
              case refine_3 => (simp only [List.getElem?_cons_succ, List.getElem?_cons_zero]; rfl)
              case refine_4 => rfl
              case refine_5 => rfl
              case refine_6 => (intro w' hSw; (try dsimp only at hSw); go_simp; (try with_reducible rfl))
              simp only [Act.put, List.setIfInBounds_toArray, List.set_cons_zero, List.set_cons_succ]
              refine take_oneL (i := 24) (d := 112) (oi := ?_) (v := ?_) ?_ hsel (by kernel_rfl) (by kernel_rfl) (fun _ _ _ h => h) ?_ ?_ ?_ (by assumption) ?_
              case refine_3 => (simp only [List.getElem?_cons_succ, List.getElem?_cons_zero]; rfl)
              case refine_4 => rfl
              case refine_5 => rfl
              case refine_6 => (intro w' hSw; (try dsimp only at hSw); go_simp; (try with_reducible rfl))
              simp only [Act.put, List.setIfInBounds_toArray, List.set_cons_zero, List.set_cons_succ]
              refine wpAnyL_ready (rs := [25]) (by kernel_rfl) (by kernel_rfl) (by simp) ?_
              refine AllReadyL.cons (o := ?_) ?_ (fun K hK => ?_) AllReadyL.nil
              case refine_2 => (simp only [List.getElem?_cons_succ, List.getElem?_cons_zero]; rfl)
              go_simp
              (go_at_call 14; (with_reducible refine (Fits_n _ _ _ _ _ _ _ _ g y.2.leaf false HBF.out (HNY.out.later HOZ.out) (HG.out.later (on_new HOP.out HOZ.out)) HSY.out).mono ?_); rintro ee w10 ⟨rfl, ho⟩; (replace HOZ := Lib.hid (on_new HOZ.out ho)); clear ho)
              go_wp2_with (fail)
              clear hHeld
              refine hK.out _ _ (KP.out _ HOZ.out) (fun hHeld => ?_)
              clear hK K
              try simp only [Act.put, List.setIfInBounds_toArray, List.set_cons_zero, List.set_cons_succ]
              refine take_oneL (i := 26) (d := 114) (oi := ?_) (v := ?_) ?_ hsel (by kernel_rfl) (by kernel_rfl) (fun _ _ _ h => h) ?_ ?_ ?_ (by assumption) ?_
              case refine_3 => (simp only [List.getElem?_cons_succ, List.getElem?_cons_zero]; rfl)
              case refine_4 => rfl
              case refine_5 => rfl
              case refine_6 => (intro w' hSw; (try dsimp only at hSw); go_simp; (try with_reducible rfl))
              simp only [Act.put, List.setIfInBounds_toArray, List.set_cons_zero, List.set_cons_succ]
              refine take_oneL (i := 27) (d := 115) (oi := ?_) (v := ?_) ?_ hsel (by kernel_rfl) (by kernel_rfl) (fun _ _ _ h => h) ?_ ?_ ?_ (by assumption) ?_
              case refine_3 => (simp only [List.getElem?_cons_succ, List.getElem?_cons_zero]; rfl)
              case refine_4 => rfl
              case refine_5 => rfl
              case refine_6 => (intro w' hSw; (try dsimp only at hSw); go_simp; (try with_reducible rfl))
              simp only [Act.put, List.setIfInBounds_toArray, List.set_cons_zero, List.set_cons_succ]
              refine take_oneL (i := 28) (d := 116) (oi := ?_) (v := ?_) ?_ hsel (by kernel_rfl) (by kernel_rfl) (fun _ _ _ h => h) ?_ ?_ ?_ (by assumption) ?_
              case refine_3 => (simp only [List.getElem?_cons_succ, List.getElem?_cons_zero]; rfl)
              case refine_4 => rfl
              case refine_5 => rfl
              case refine_6 => (intro w' hSw; (try dsimp only at hSw); go_simp; (try with_reducible rfl))
              simp only [Act.put, List.setIfInBounds_toArray, List.set_cons_zero, List.set_cons_succ]
              refine take_oneL (i := 29) (d := 117) (oi := ?_) (v := ?_) ?_ hsel (by kernel_rfl) (by kernel_rfl) (fun _ _ _ h => h) ?_ ?_ ?_ (by assumption) ?_
              case refine_3 => (simp only [List.getElem?_cons_succ, List.getElem?_cons_zero]; rfl)
              case refine_4 => rfl
              case refine_5 => rfl
              case refine_6 => (intro w' hSw; (try dsimp only at hSw); go_simp; (try with_reducible rfl))
              simp only [Act.put, List.setIfInBounds_toArray, List.set_cons_zero, List.set_cons_succ]
              refine take_oneL (i := 30) (d := 118) (oi := ?_) (v := ?_) ?_ hsel (by kernel_rfl) (by kernel_rfl) (fun _ _ _ h => h) ?_ ?_ ?_ (by assumption) ?_
              case refine_3 => (simp only [List.getElem?_cons_succ, List.getElem?_cons_zero]; rfl)
              case refine_4 => rfl
              case refine_5 => rfl
              case refine_6 => (intro w' hSw; (try dsimp only at hSw); go_simp; (try with_reducible rfl))
              simp only [Act.put, List.setIfInBounds_toArray, List.set_cons_zero, List.set_cons_succ]
              refine take_oneL (i := 31) (d := 119) (oi := ?_) (v := ?_) ?_ hsel (by kernel_rfl) (by kernel_rfl) (fun _ _ _ h => h) ?_ ?_ ?_ (by assumption) ?_
              case refine_3 => (simp only [List.getElem?_cons_succ, List.getElem?_cons_zero]; rfl)
              case refine_4 => rfl
              case refine_5 => rfl
              case refine_6 => (intro w' hSw; (try dsimp only at hSw); go_simp; (try with_reducible rfl))
              simp only [Act.put, List.setIfInBounds_toArray, List.set_cons_zero, List.set_cons_succ]
              refine take_oneL (i := 32) (d := 120) (oi := ?_) (v := ?_) ?_ hsel (by kernel_rfl) (by kernel_rfl) (fun _ _ _ h => h) ?_ ?_ ?_ (by assumption) ?_
              case refine_3 => (simp only [List.getElem?_cons_succ, List.getElem?_cons_zero]; rfl)
              case refine_4 => rfl
              case refine_5 => rfl
              case refine_6 => (intro w' hSw; (try dsimp only at hSw); go_simp; (try with_reducible rfl))
              simp only [Act.put, List.setIfInBounds_toArray, List.set_cons_zero, List.set_cons_succ]
              refine take_oneL (i := 33) (d := 121) (oi := ?_) (v := ?_) ?_ hsel (by kernel_rfl) (by kernel_rfl) (fun _ _ _ h => h) ?_ ?_ ?_ (by assumption) ?_
              case refine_3 => (simp only [List.getElem?_cons_succ, List.getElem?_cons_zero]; rfl)
              case refine_4 => rfl
              case refine_5 => rfl
              case refine_6 => (intro w' hSw; (try dsimp only at hSw); go_simp; (try with_reducible rfl))
              simp only [Act.put, List.setIfInBounds_toArray, List.set_cons_zero, List.set_cons_succ]
              refine take_oneL (i := 34) (d := 122) (oi := ?_) (v := ?_) ?_ hsel (by kernel_rfl) (by kernel_rfl) (fun _ _ _ h => h) ?_ ?_ ?_ (by assumption) ?_
              case refine_3 => (simp only [List.getElem?_cons_succ, List.getElem?_cons_zero]; rfl)
              case refine_4 => rfl
              case refine_5 => rfl
              case refine_6 => (intro w' hSw; (try dsimp only at hSw); go_simp; (try with_reducible rfl))
              simp only [Act.put, List.setIfInBounds_toArray, List.set_cons_zero, List.set_cons_succ]
              refine take_oneL (i := 35) (d := 123) (oi := ?_) (v := ?_) ?_ hsel (by kernel_rfl) (by kernel_rfl) (fun _ _ _ h => h) ?_ ?_ ?_ (by assumption) ?_
              case refine_3 => (simp only [List.getElem?_cons_succ, List.getElem?_cons_zero]; rfl)
              case refine_4 => rfl
              case refine_5 => rfl
              case refine_6 => (intro w' hSw; (try dsimp only at hSw); go_simp; (try with_reducible rfl))
              simp only [Act.put, List.setIfInBounds_toArray, List.set_cons_zero, List.set_cons_succ]
              refine take_oneL (i := 36) (d := 124) (oi := ?_) (v := ?_) ?_ hsel (by kernel_rfl) (by kernel_rfl) (fun _ _ _ h => h) ?_ ?_ ?_ (by assumption) ?_
              case refine_3 => (simp only [List.getElem?_cons_succ, List.getElem?_cons_zero]; rfl)
              case refine_4 => rfl
              case refine_5 => rfl
              case refine_6 => (intro w' hSw; (try dsimp only at hSw); go_simp; (try with_reducible rfl))
              simp only [Act.put, List.setIfInBounds_toArray, List.set_cons_zero, List.set_cons_succ]
              refine take_oneL (i := 37) (d := 125) (oi := ?_) (v := ?_) ?_ hsel (by kernel_rfl) (by kernel_rfl) (fun _ _ _ h => h) ?_ ?_ ?_ (by assumption) ?_
              case refine_3 => (simp only [List.getElem?_cons_succ, List.getElem?_cons_zero]; rfl)
              case refine_4 => rfl
              case refine_5 => rfl
              case refine_6 => (intro w' hSw; (try dsimp only at hSw); go_simp; (try with_reducible rfl))
              simp only [Act.put, List.setIfInBounds_toArray, List.set_cons_zero, List.set_cons_succ]
              refine take_oneL (i := 38) (d := 126) (oi := ?_) (v := ?_) ?_ hsel (by kernel_rfl) (by kernel_rfl) (fun _ _ _ h => h) ?_ ?_ ?_ (by assumption) ?_
              case refine_3 => (simp only [List.getElem?_cons_succ, List.getElem?_cons_zero]; rfl)
              case refine_4 => rfl
              case refine_5 => rfl
              case refine_6 => (intro w' hSw; (try dsimp only at hSw); go_simp; (try with_reducible rfl))
              simp only [Act.put, List.setIfInBounds_toArray, List.set_cons_zero, List.set_cons_succ]
              refine take_oneL (i := 39) (d := 127) (oi := ?_) (v := ?_) ?_ hsel (by kernel_rfl) (by kernel_rfl) (fun _ _ _ h => h) ?_ ?_ ?_ (by assumption) ?_
              case refine_3 => (simp only [List.getElem?_cons_succ, List.getElem?_cons_zero]; rfl)
              case refine_4 => rfl
              case refine_5 => rfl
              case refine_6 => (intro w' hSw; (try dsimp only at hSw); go_simp; (try with_reducible rfl))
              simp only [Act.put, List.setIfInBounds_toArray, List.set_cons_zero, List.set_cons_succ]
              refine wpAnyL_done (by kernel_rfl) (by kernel_rfl) ?_ _
              clear hsel hHeld
              obtain ⟨g0, g1, g2⟩ := (HAP.out.1.later HOZ.out).tri
              obtain ⟨e0, e1, e2, e3, _⟩ := KP.out _ HOZ.out
              by_cases hk0 : 0 < k
              · have hk0i : (0 : Int) < (k : Int) := by omega
                have HJ : Hid (∀ W, Only (wp.heap.size ≤ ·) wp W → Calls Tryd.prog 15 #[.agg #[.bool lf, .slice A' n' c', .slice B' m' d'], .agg #[.bool y.2.leaf, .slice Q3 y.2.its.length q3, .slice R3 y.2.kds.length r3], .slice P3 y.1.length p3] W (GaveN W (jn l (k + 1)))) := Lib.hid fun W hW => by
                  rw [jn_succ hk0 HYK.out]
                  have hj := jn_len (k := k) hl120 HALL.out
                  have hn1 := HAP.out.2.1.nod.now.2.1.len
                  have hn2 := HAP.out.2.1.nod.now.2.2.len
                  have hs1 := HSY.out.1
                  have hs2 := HSY.out.2.1
                  exact Join_n W lf y.2.leaf _ _ _ _ _ _ _ _ _ _ _ _ _ (jn l k) y.2 y.1 ((HAP.out.2.1.later hW).nod.now) (HNY.out.later hW) (by omega) (by omega) (by omega) (by omega) (HSK.out.later hW) (by have := HKL.out; omega)
                go_upto_region 15 with (go_at_call 15; (with_reducible refine (HJ.out _ HOZ.out).mono ?_); rintro ee w20 ⟨JA, jo, jc, JB, jm, jd, rfl, hj, ho⟩; have HNJ := Lib.hid hj; clear hj g0 g1 g2; (replace HOZ := Lib.hid (on_new HOZ.out ho)); clear ho; (obtain ⟨g0, g1, g2⟩ := (HAP.out.1.later HOZ.out).tri); (obtain ⟨f0, f1, f2⟩ := (HAP.out.1.later HOZ.out).melt3))
                have HB8 := Lib.hid (HAP.out.1.later HOZ.out)
                have HO8 := Lib.hid (on_new HAP.out.2.2 HOZ.out)
                obtain ⟨W6, hW6⟩ : ∃ W6, W6 = (((w20.setCell ⟨W4.heap.size, 0, none⟩ (.bool (jn l (k + 1)).leaf)).setCell ⟨W4.heap.size, 1, none⟩ (.slice JA jo jc)).setCell ⟨W4.heap.size, 2, none⟩ (.slice JB jm jd)) := ⟨_, rfl⟩
                have hB6 : Blk W6 W4.heap.size 34 [.bool (jn l (k + 1)).leaf, .slice JA jo jc, .slice JB jm jd] := by rw [hW6]; exact ((HB8.out.set_ 0 _).set_ 1 _).set_ 2 _
                have hO6 : Only (· = W4.heap.size) w20 W6 := by rw [hW6]; exact (((Only.refl (· = W4.heap.size) _).setCell (p := ⟨W4.heap.size, 0, none⟩) rfl _).setCell (p := ⟨W4.heap.size, 1, none⟩) rfl _).setCell (p := ⟨W4.heap.size, 2, none⟩) rfl _
                have hS6 := (nod_free HB8.out HNJ.out).step (hO6.mono fun _ h => .inl h) fun k hk => .inl hk
                rw [← hW6]
                have HX6 : Hid (Blk W6 W4.heap.size 34 [.bool (jn l (k + 1)).leaf, .slice JA jo jc, .slice JB jm jd] ∧ SNod (· = W4.heap.size) W6 (jn l (k + 1)) (jn l (k + 1)).leaf (.slice JA jo jc) (.slice JB jm jd) ∧ Only (W4.heap.size ≤ ·) W4 W6) := Lib.hid ⟨hB6, hS6, HO8.out.trans (hO6.mono fun j hj => by omega)⟩
                clear hW6 hB6 hO6 hS6 g0 g1 g2 f0 f1 f2 e0 e1 e2 e3
                go_wp2
                go_roundw
                case rel => exact ⟨k + 1, _, _, _, _, _, _, _, by omega, by go_num, HX6⟩
                case measure => simp [intOf]; omega
              · have hk0i : ¬ (0 : Int) < (k : Int) := by omega
                obtain rfl : k = 0 := by omega
                have HX6 : Hid (Blk _ W4.heap.size 34 [.bool lf, .slice A' n' c', .slice B' m' d'] ∧ SNod (· = W4.heap.size) _ (jn l (0 + 1)) lf (.slice A' n' c') (.slice B' m' d') ∧ Only (W4.heap.size ≤ ·) W4 _) := Lib.hid ⟨HAP.out.1.later HOZ.out, by rw [(jn_zero HYK.out).2, ← (jn_zero HYK.out).1]; exact HAP.out.2.1.later HOZ.out, on_new HAP.out.2.2 HOZ.out⟩
                clear g0 g1 g2 e0 e1 e2 e3
                go_wp2
                go_roundw
                case rel => exact ⟨0 + 1, _, _, _, _, _, _, _, by omega, by go_num, HX6⟩
                case measure => simp [intOf]; omega
            · skip
              refine wp_region_list (B := [false, false, false, false, false, false, false, false, false, false, false, false, false, false, false, false, false, false, false, false, false, false, false, false, false, false, false, false, false, false, false, false, false, false, false, false, false, false, false, false]) (S := (fun W => W.cell? ⟨wr.heap.size, 0, none⟩ = some (.slice P3 y.1.length p3) ∧ W.cell? ⟨wr.heap.size, 1, none⟩ = some (.bool y.2.leaf) ∧ W.cell? ⟨wr.heap.size, 2, none⟩ = some (.slice Q3 y.2.its.length q3) ∧ W.cell? ⟨wr.heap.size, 3, none⟩ = some (.slice R3 y.2.kds.length r3) ∧ W.cell? ⟨vb, vo + k * 4, none⟩ = some (.slice V1 y.1.length v1) ∧ W.cell? ⟨vb, vo + k * 4 + 1, none⟩ = some (.bool y.2.leaf) ∧ W.cell? ⟨vb, vo + k * 4 + 2, none⟩ = some (.slice V2 y.2.its.length v2) ∧ W.cell? ⟨vb, vo + k * 4 + 3, none⟩ = some (.slice V3 y.2.kds.length v3))) (by kernel_rfl) (by kernel_rfl) (by kernel_rfl) (KP.out _ HOZ.out) (fun hsel hHeld => ?_)
              obtain ⟨wq, hwq⟩ : ∃ wq, wq = wp.drew := ⟨_, rfl⟩
              rw [← hwq] at HOZ hHeld
              rw [← hwq]
              clear hwq
              refine take_oneL (i := 0) (d := 88) (oi := ?_) (v := ?_) ?_ hsel (by kernel_rfl) (by kernel_rfl) (fun _ _ _ h => h) ?_ ?_ ?_ (by assumption) ?_
              case refine_3 => (simp only [List.getElem?_cons_zero]; rfl)
              case refine_4 => rfl
              case refine_5 => rfl
              case refine_6 => (intro w' hSw; (try dsimp only at hSw); go_simp; (try with_reducible rfl))
              simp only [Act.put, List.setIfInBounds_toArray, List.set_cons_zero, List.set_cons_succ]
              refine take_oneL (i := 1) (d := 89) (oi := ?_) (v := ?_) ?_ hsel (by kernel_rfl) (by kernel_rfl) (fun _ _ _ h => h) ?_ ?_ ?_ (by assumption) ?_
              case refine_3 => (simp only [List.getElem?_cons_succ, List.getElem?_cons_zero]; rfl)
              case refine_4 => rfl
              case refine_5 => rfl
              case refine_6 => (intro w' hSw; (try dsimp only at hSw); go_simp; (try with_reducible rfl))
              simp only [Act.put, List.setIfInBounds_toArray, List.set_cons_zero, List.set_cons_succ]
              refine take_oneL (i := 2) (d := 90) (oi := ?_) (v := ?_) ?_ hsel (by kernel_rfl) (by kernel_rfl) (fun _ _ _ h => h) ?_ ?_ ?_ (by assumption) ?_
              case refine_3 => (simp only [List.getElem?_cons_succ, List.getElem?_cons_zero]; rfl)
              case refine_4 => rfl
              case refine_5 => rfl
              case refine_6 => (intro w' hSw; (try dsimp only at hSw); go_simp; (try with_reducible rfl))
              simp only [Act.put, List.setIfInBounds_toArray, List.set_cons_zero, List.set_cons_succ]
              refine take_oneL (i := 3) (d := 91) (oi := ?_) (v := ?_) ?_ hsel (by kernel_rfl) (by kernel_rfl) (fun _ _ _ h => h) ?_ ?_ ?_ (by assumption) ?_
              case refine_3 => (simp only [List.getElem?_cons_succ, List.getElem?_cons_zero]; rfl)
              case refine_4 => rfl
              case refine_5 => rfl
              case refine_6 => (intro w' hSw; (try dsimp only at hSw); go_simp; (try with_reducible rfl))
              simp only [Act.put, List.setIfInBounds_toArray, List.set_cons_zero, List.set_cons_succ]
              refine take_oneL (i := 4) (d := 92) (oi := ?_) (v := ?_) ?_ hsel (by kernel_rfl) (by kernel_rfl) (fun _ _ _ h => h) ?_ ?_ ?_ (by assumption) ?_
              case refine_3 => (simp only [List.getElem?_cons_succ, List.getElem?_cons_zero]; rfl)
              case refine_4 => rfl
              case refine_5 => rfl
              case refine_6 => (intro w' hSw; (try dsimp only at hSw); go_simp; (try with_reducible rfl))
              simp only [Act.put, List.setIfInBounds_toArray, List.set_cons_zero, List.set_cons_succ]
              refine take_oneL (i := 5) (d := 93) (oi := ?_) (v := ?_) ?_ hsel (by kernel_rfl) (by kernel_rfl) (fun _ _ _ h => h) ?_ ?_ ?_ (by assumption) ?_
              case refine_3 => (simp only [List.getElem?_cons_succ, List.getElem?_cons_zero]; rfl)
              case refine_4 => rfl
              case refine_5 => rfl
              case refine_6 => (intro w' hSw; (try dsimp only at hSw); go_simp; (try with_reducible rfl))
              simp only [Act.put, List.setIfInBounds_toArray, List.set_cons_zero, List.set_cons_succ]
              refine take_oneL (i := 6) (d := 94) (oi := ?_) (v := ?_) ?_ hsel (by kernel_rfl) (by kernel_rfl) (fun _ _ _ h => h) ?_ ?_ ?_ (by assumption) ?_
              case refine_3 => (simp only [List.getElem?_cons_succ, List.getElem?_cons_zero]; rfl)
              case refine_4 => rfl
              case refine_5 => rfl
              case refine_6 => (intro w' hSw; (try dsimp only at hSw); go_simp; (try with_reducible rfl))
              simp only [Act.put, List.setIfInBounds_toArray, List.set_cons_zero, List.set_cons_succ]
              refine wpAnyL_ready (rs := [7]) (by kernel_rfl) (by kernel_rfl) (by simp) ?_
              refine AllReadyL.cons (o := ?_) ?_ (fun K hK => ?_) AllReadyL.nil
              case refine_2 => (simp only [List.getElem?_cons_succ, List.getElem?_cons_zero]; rfl)
              go_simp
              (go_at_call 11; (with_reducible refine (Equal_b _ _ _ y.1 y.1 true (HSK.out.later HOZ.out) (HSV.out.later HOZ.out) (by simp)).mono ?_); rintro ee w7 ⟨rfl, rfl⟩)
              go_wp2_with (fail)
              clear hHeld
              refine hK.out _ _ (KP.out _ HOZ.out) (fun hHeld => ?_)
              clear hK K
              try simp only [Act.put, List.setIfInBounds_toArray, List.set_cons_zero, List.set_cons_succ]
              refine take_oneL (i := 8) (d := 96) (oi := ?_) (v := ?_) ?_ hsel (by kernel_rfl) (by kernel_rfl) (fun _ _ _ h => h) ?_ ?_ ?_ (by assumption) ?_
              case refine_3 => (simp only [List.getElem?_cons_succ, List.getElem?_cons_zero]; rfl)
              case refine_4 => rfl
              case refine_5 => rfl
              case refine_6 => (intro w' hSw; (try dsimp only at hSw); go_simp; (try with_reducible rfl))
              simp only [Act.put, List.setIfInBounds_toArray, List.set_cons_zero, List.set_cons_succ]
              refine take_oneL (i := 9) (d := 97) (oi := ?_) (v := ?_) ?_ hsel (by kernel_rfl) (by kernel_rfl) (fun _ _ _ h => h) ?_ ?_ ?_ (by assumption) ?_
              case refine_3 => (simp only [List.getElem?_cons_succ, List.getElem?_cons_zero]; rfl)
              case refine_4 => rfl
              case refine_5 => rfl
              case refine_6 => (intro w' hSw; (try dsimp only at hSw); go_simp; (try with_reducible rfl))
              simp only [Act.put, List.setIfInBounds_toArray, List.set_cons_zero, List.set_cons_succ]
              refine take_oneL (i := 10) (d := 98) (oi := ?_) (v := ?_) ?_ hsel (by kernel_rfl) (by kernel_rfl) (fun _ _ _ h => h) ?_ ?_ ?_ (by assumption) ?_
              case refine_3 => (simp only [List.getElem?_cons_succ, List.getElem?_cons_zero]; rfl)
              case refine_4 => rfl
              case refine_5 => rfl
              case refine_6 => (intro w' hSw; (try dsimp only at hSw); go_simp; (try with_reducible rfl))
              simp only [Act.put, List.setIfInBounds_toArray, List.set_cons_zero, List.set_cons_succ]
              refine take_oneL (i := 11) (d := 99) (oi := ?_) (v := ?_) ?_ hsel (by kernel_rfl) (by kernel_rfl) (fun _ _ _ h => h) ?_ ?_ ?_ (by assumption) ?_
              case refine_3 => (simp only [List.getElem?_cons_succ, List.getElem?_cons_zero]; rfl)
              case refine_4 => rfl
              case refine_5 => rfl
              case refine_6 => (intro w' hSw; (try dsimp only at hSw); go_simp; (try with_reducible rfl))
              simp only [Act.put, List.setIfInBounds_toArray, List.set_cons_zero, List.set_cons_succ]
              refine take_oneL (i := 13) (d := 101) (oi := ?_) (v := ?_) ?_ hsel (by kernel_rfl) (by kernel_rfl) (fun _ _ _ h => h) ?_ ?_ ?_ (by assumption) ?_
              case refine_3 => (simp only [List.getElem?_cons_succ, List.getElem?_cons_zero]; rfl)
              case refine_4 => rfl
              case refine_5 => rfl
              case refine_6 => (intro w' hSw; (try dsimp only at hSw); go_simp; (try with_reducible rfl))
              simp only [Act.put, List.setIfInBounds_toArray, List.set_cons_zero, List.set_cons_succ]
              refine take_oneL (i := 14) (d := 102) (oi := ?_) (v := ?_) ?_ hsel (by kernel_rfl) (by kernel_rfl) (fun _ _ _ h => h) ?_ ?_ ?_ (by assumption) ?_
              case refine_3 => (simp only [List.getElem?_cons_succ, List.getElem?_cons_zero]; rfl)
              case refine_4 => rfl
              case refine_5 => rfl
              case refine_6 => (intro w' hSw; (try dsimp only at hSw); go_simp; (try with_reducible rfl))
              simp only [Act.put, List.setIfInBounds_toArray, List.set_cons_zero, List.set_cons_succ]
              refine take_oneL (i := 15) (d := 103) (oi := ?_) (v := ?_) ?_ hsel (by kernel_rfl) (by kernel_rfl) (fun _ _ _ h => h) ?_ ?_ ?_ (by assumption) ?_
              case refine_3 => (simp only [List.getElem?_cons_succ, List.getElem?_cons_zero]; rfl)
              case refine_4 => rfl
              case refine_5 => rfl
              case refine_6 => (intro w' hSw; (try dsimp only at hSw); go_simp; (try with_reducible rfl))
              simp only [Act.put, List.setIfInBounds_toArray, List.set_cons_zero, List.set_cons_succ]
              refine take_oneL (i := 16) (d := 104) (oi := ?_) (v := ?_) ?_ hsel (by kernel_rfl) (by kernel_rfl) (fun _ _ _ h => h) ?_ ?_ ?_ (by assumption) ?_
              case refine_3 => (simp only [List.getElem?_cons_succ, List.getElem?_cons_zero]; rfl)
              case refine_4 => rfl
              case refine_5 => rfl
              case refine_6 => (intro w' hSw; (try dsimp only at hSw); go_simp; (try with_reducible rfl))
              simp only [Act.put, List.setIfInBounds_toArray, List.set_cons_zero, List.set_cons_succ]
              refine take_oneL (i := 17) (d := 105) (oi := ?_) (v := ?_) ?_ hsel (by kernel_rfl) (by kernel_rfl) (fun _ _ _ h => h) ?_ ?_ ?_ (by assumption) ?_
              case refine_3 => (simp only [List.getElem?_cons_succ, List.getElem?_cons_zero]; rfl)
              case refine_4 => rfl
              case refine_5 => rfl
              case refine_6 => (intro w' hSw; (try dsimp only at hSw); go_simp; (try with_reducible rfl))
              simp only [Act.put, List.setIfInBounds_toArray, List.set_cons_zero, List.set_cons_succ]
              refine wpAnyL_ready (rs := [12]) (by kernel_rfl) (by kernel_rfl) (by simp) ?_
              refine AllReadyL.cons (o := ?_) ?_ (fun K hK => ?_) AllReadyL.nil
              case refine_2 => (simp only [List.getElem?_cons_succ, List.getElem?_cons_zero]; rfl)
              go_simp
              (go_at_call 13; (with_reducible refine (NOld_c _ _ _ _ _ _ _ _ y.2 (HNY.out.later HOZ.out) HSY.out).mono ?_); rintro ee w8 ⟨OA, on, oc, OB, om, od, rfl, hno, ho⟩; (obtain rfl := hno.2.1.len); (obtain rfl := hno.2.2.len); have HNO := Lib.hid hno; clear hno; (replace HOZ := Lib.hid (on_new HOZ.out ho)); clear ho)
              go_wp2_with (fail)
              clear hHeld
              refine hK.out _ _ (KP.out _ HOZ.out) (fun hHeld => ?_)
              clear hK K
              try simp only [Act.put, List.setIfInBounds_toArray, List.set_cons_zero, List.set_cons_succ]
              refine wpAnyL_ready (rs := [18]) (by kernel_rfl) (by kernel_rfl) (by simp) ?_
              refine AllReadyL.cons (o := ?_) ?_ (fun K hK => ?_) AllReadyL.nil
              case refine_2 => (simp only [List.getElem?_cons_succ, List.getElem?_cons_zero]; rfl)
              go_simp
              (go_at_call 12; (with_reducible refine (DSame_eq _ _ _ _ _ _ _ _ _ _ _ _ y.2 HNO.out (HNV.out.later HOZ.out) HSN.out.1 HSN.out.2).mono ?_); rintro ee w9 ⟨rfl, ho⟩; (replace HOZ := Lib.hid (on_new HOZ.out ho)); clear ho)
              go_wp2_with (fail)
              clear hHeld
              refine hK.out _ _ (KP.out _ HOZ.out) (fun hHeld => ?_)
              clear hK K
              try simp only [Act.put, List.setIfInBounds_toArray, List.set_cons_zero, List.set_cons_succ]
              refine take_oneL (i := 19) (d := 107) (oi := ?_) (v := ?_) ?_ hsel (by kernel_rfl) (by kernel_rfl) (fun _ _ _ h => h) ?_ ?_ ?_ (by assumption) ?_
              case refine_3 => (simp only [List.getElem?_cons_succ, List.getElem?_cons_zero]; rfl)
              case refine_4 => rfl
              case refine_5 => rfl
              case refine_6 => (intro w' hSw; (try dsimp only at hSw); go_simp; (try with_reducible rfl))
              simp only [Act.put, List.setIfInBounds_toArray, List.set_cons_zero, List.set_cons_succ]
              refine take_oneL (i := 20) (d := 108) (oi := ?_) (v := ?_) ?_ hsel (by kernel_rfl) (by kernel_rfl) (fun _ _ _ h => h) ?_ ?_ ?_ (by assumption) ?_
              case refine_3 => (simp only [List.getElem?_cons_succ, List.getElem?_cons_zero]; rfl)
              case refine_4 => rfl
              case refine_5 => rfl
              case refine_6 => (intro w' hSw; (try dsimp only at hSw); go_simp; (try with_reducible rfl))
              simp only [Act.put, List.setIfInBounds_toArray, List.set_cons_zero, List.set_cons_succ]
              refine take_oneL (i := 21) (d := 109) (oi := ?_) (v := ?_) ?_ hsel (by kernel_rfl) (by kernel_rfl) (fun _ _ _ h => h) ?_ ?_ ?_ (by assumption) ?_
              case refine_3 => (simp only [List.getElem?_cons_succ, List.getElem?_cons_zero]; rfl)
              case refine_4 => rfl
              case refine_5 => rfl
              case refine_6 => (intro w' hSw; (try dsimp only at hSw); go_simp; (try with_reducible rfl))
              simp only [Act.put, List.setIfInBounds_toArray, List.set_cons_zero, List.set_cons_succ]
              refine take_oneL (i := 22) (d := 110) (oi := ?_) (v := ?_) ?_ hsel (by kernel_rfl) (by kernel_rfl) (fun _ _ _ h => h) ?_ ?_ ?_ (by assumption) ?_
              case refine_3 => (simp only [List.getElem?_cons_succ, List.getElem?_cons_zero]; rfl)
              case refine_4 => rfl
              case refine_5 => rfl
              case refine_6 => (intro w' hSw; (try dsimp only at hSw); go_simp; (try with_reducible rfl))
              simp only [Act.put, List.setIfInBounds_toArray, List.set_cons_zero, List.set_cons_succ]
              refine take_oneL (i := 23) (d := 111) (oi := ?_) (v := ?_) ?_ hsel (by kernel_rfl) (by kernel_rfl) (fun _ _ _ h => h) ?_ ?_ ?_ (by assumption) ?_
              case refine_3 => (simp only [List.getElem?_cons_succ, List.getElem?_cons_zero]; rfl)
              case refine_4 => rfl
              case refine_5 => rfl
              case refine_6 => (intro w' hSw; (try dsimp only at hSw); go_simp; (try with_reducible rfl))
              simp only [Act.put, List.setIfInBounds_toArray, List.set_cons_zero, List.set_cons_succ]
              refine take_oneL (i := 24) (d := 112) (oi := ?_) (v := ?_) ?_ hsel (by kernel_rfl) (by kernel_rfl) (fun _ _ _ h => h) ?_ ?_ ?_ (by assumption) ?_
              case refine_3 => (simp only [List.getElem?_cons_succ, List.getElem?_cons_zero]; rfl)
              case refine_4 => rfl
              case refine_5 => rfl
              case refine_6 => (intro w' hSw; (try dsimp only at hSw); go_simp; (try with_reducible rfl))
              simp only [Act.put, List.setIfInBounds_toArray, List.set_cons_zero, List.set_cons_succ]
              refine wpAnyL_ready (rs := [25]) (by kernel_rfl) (by kernel_rfl) (by simp) ?_
              refine AllReadyL.cons (o := ?_) ?_ (fun K hK => ?_) AllReadyL.nil
              case refine_2 => (simp only [List.getElem?_cons_succ, List.getElem?_cons_zero]; rfl)
              go_simp
              (go_at_call 14; (with_reducible refine (Fits_n _ _ _ _ _ _ _ _ g y.2.leaf true HBF.out (HNY.out.later HOZ.out) (HG.out.later (on_new HOP.out HOZ.out)) HSY.out).mono ?_); rintro ee w10 ⟨rfl, ho⟩; (replace HOZ := Lib.hid (on_new HOZ.out ho)); clear ho)
              go_wp2_with (fail)
              clear hHeld
              refine hK.out _ _ (KP.out _ HOZ.out) (fun hHeld => ?_)
              clear hK K
              try simp only [Act.put, List.setIfInBounds_toArray, List.set_cons_zero, List.set_cons_succ]
              refine take_oneL (i := 26) (d := 114) (oi := ?_) (v := ?_) ?_ hsel (by kernel_rfl) (by kernel_rfl) (fun _ _ _ h => h) ?_ ?_ ?_ (by assumption) ?_
              case refine_3 => (simp only [List.getElem?_cons_succ, List.getElem?_cons_zero]; rfl)
              case refine_4 => rfl
              case refine_5 => rfl
              case refine_6 => (intro w' hSw; (try dsimp only at hSw); go_simp; (try with_reducible rfl))
              simp only [Act.put, List.setIfInBounds_toArray, List.set_cons_zero, List.set_cons_succ]
              refine take_oneL (i := 27) (d := 115) (oi := ?_) (v := ?_) ?_ hsel (by kernel_rfl) (by kernel_rfl) (fun _ _ _ h => h) ?_ ?_ ?_ (by assumption) ?_
              case refine_3 => (simp only [List.getElem?_cons_succ, List.getElem?_cons_zero]; rfl)
              case refine_4 => rfl
              case refine_5 => rfl
              case refine_6 => (intro w' hSw; (try dsimp only at hSw); go_simp; (try with_reducible rfl))
              simp only [Act.put, List.setIfInBounds_toArray, List.set_cons_zero, List.set_cons_succ]
              refine take_skipL (i := 28) (d := 116) (oi := ?_) ?_ hsel (by kernel_rfl) (by kernel_rfl) (fun _ _ _ h => h) ?_ ?_ (by assumption) ?_
              case refine_2 => (simp only [List.getElem?_cons_succ, List.getElem?_cons_zero]; rfl)
              case refine_3 => rfl
              case refine_4 => rfl
              simp only [Act.put, List.setIfInBounds_toArray, List.set_cons_zero, List.set_cons_succ]
              refine take_skipL (i := 29) (d := 117) (oi := ?_) ?_ hsel (by kernel_rfl) (by kernel_rfl) (fun _ _ _ h => h) ?_ ?_ (by assumption) ?_
              case refine_2 => (simp only [List.getElem?_cons_succ, List.getElem?_cons_zero]; rfl)
              case refine_3 => rfl
              case refine_4 => rfl
              simp only [Act.put, List.setIfInBounds_toArray, List.set_cons_zero, List.set_cons_succ]
              refine take_skipL (i := 30) (d := 118) (oi := ?_) ?_ hsel (by kernel_rfl) (by kernel_rfl) (fun _ _ _ h => h) ?_ ?_ (by assumption) ?_
              case refine_2 => (simp only [List.getElem?_cons_succ, List.getElem?_cons_zero]; rfl)
              case refine_3 => rfl
              case refine_4 => rfl
              simp only [Act.put, List.setIfInBounds_toArray, List.set_cons_zero, List.set_cons_succ]
              refine take_skipL (i := 31) (d := 119) (oi := ?_) ?_ hsel (by kernel_rfl) (by kernel_rfl) (fun _ _ _ h => h) ?_ ?_ (by assumption) ?_
              case refine_2 => (simp only [List.getElem?_cons_succ, List.getElem?_cons_zero]; rfl)
              case refine_3 => rfl
              case refine_4 => rfl
              simp only [Act.put, List.setIfInBounds_toArray, List.set_cons_zero, List.set_cons_succ]
              refine take_skipL (i := 32) (d := 120) (oi := ?_) ?_ hsel (by kernel_rfl) (by kernel_rfl) (fun _ _ _ h => h) ?_ ?_ (by assumption) ?_
              case refine_2 => (simp only [List.getElem?_cons_succ, List.getElem?_cons_zero]; rfl)
              case refine_3 => rfl
              case refine_4 => rfl
              simp only [Act.put, List.setIfInBounds_toArray, List.set_cons_zero, List.set_cons_succ]
              refine take_skipL (i := 33) (d := 121) (oi := ?_) ?_ hsel (by kernel_rfl) (by kernel_rfl) (fun _ _ _ h => h) ?_ ?_ (by assumption) ?_
              case refine_2 => (simp only [List.getElem?_cons_succ, List.getElem?_cons_zero]; rfl)
              case refine_3 => rfl
              case refine_4 => rfl
              simp only [Act.put, List.setIfInBounds_toArray, List.set_cons_zero, List.set_cons_succ]
              refine take_skipL (i := 34) (d := 122) (oi := ?_) ?_ hsel (by kernel_rfl) (by kernel_rfl) (fun _ _ _ h => h) ?_ ?_ (by assumption) ?_
              case refine_2 => (simp only [List.getElem?_cons_succ, List.getElem?_cons_zero]; rfl)
              case refine_3 => rfl
              case refine_4 => rfl
              simp only [Act.put, List.setIfInBounds_toArray, List.set_cons_zero, List.set_cons_succ]
              refine take_skipL (i := 35) (d := 123) (oi := ?_) ?_ hsel (by kernel_rfl) (by kernel_rfl) (fun _ _ _ h => h) ?_ ?_ (by assumption) ?_
              case refine_2 => (simp only [List.getElem?_cons_succ, List.getElem?_cons_zero]; rfl)
              case refine_3 => rfl
              case refine_4 => rfl
              simp only [Act.put, List.setIfInBounds_toArray, List.set_cons_zero, List.set_cons_succ]
              refine take_skipL (i := 36) (d := 124) (oi := ?_) ?_ hsel (by kernel_rfl) (by kernel_rfl) (fun _ _ _ h => h) ?_ ?_ (by assumption) ?_
              case refine_2 => (simp only [List.getElem?_cons_succ, List.getElem?_cons_zero]; rfl)
              case refine_3 => rfl
              case refine_4 => rfl
              simp only [Act.put, List.setIfInBounds_toArray, List.set_cons_zero, List.set_cons_succ]
              refine take_skipL (i := 37) (d := 125) (oi := ?_) ?_ hsel (by kernel_rfl) (by kernel_rfl) (fun _ _ _ h => h) ?_ ?_ (by assumption) ?_
              case refine_2 => (simp only [List.getElem?_cons_succ, List.getElem?_cons_zero]; rfl)
              case refine_3 => rfl
              case refine_4 => rfl
              simp only [Act.put, List.setIfInBounds_toArray, List.set_cons_zero, List.set_cons_succ]
              refine take_oneL (i := 38) (d := 126) (oi := ?_) (v := ?_) ?_ hsel (by kernel_rfl) (by kernel_rfl) (fun _ _ _ h => h) ?_ ?_ ?_ (by assumption) ?_
              case refine_3 => (simp only [List.getElem?_cons_succ, List.getElem?_cons_zero]; rfl)
              case refine_4 => rfl
              case refine_5 => rfl
              case refine_6 => (intro w' hSw; (try dsimp only at hSw); go_simp; (try with_reducible rfl))
              simp only [Act.put, List.setIfInBounds_toArray, List.set_cons_zero, List.set_cons_succ]
              refine take_oneL (i := 39) (d := 127) (oi := ?_) (v := ?_) ?_ hsel (by kernel_rfl) (by kernel_rfl) (fun _ _ _ h => h) ?_ ?_ ?_ (by assumption) ?_
              case refine_3 => (simp only [List.getElem?_cons_succ, List.getElem?_cons_zero]; rfl)
              case refine_4 => rfl
              case refine_5 => rfl
              case refine_6 => (intro w' hSw; (try dsimp only at hSw); go_simp; (try with_reducible rfl))
              simp only [Act.put, List.setIfInBounds_toArray, List.set_cons_zero, List.set_cons_succ]
              refine wpAnyL_done (by kernel_rfl) (by kernel_rfl) ?_ _
              clear hsel hHeld
              obtain ⟨g0, g1, g2⟩ := (HAP.out.1.later HOZ.out).tri
              obtain ⟨e0, e1, e2, e3, _⟩ := KP.out _ HOZ.out
              by_cases hk0 : 0 < k
              · have hk0i : (0 : Int) < (k : Int) := by omega
                have HJ : Hid (∀ W, Only (wp.heap.size ≤ ·) wp W → Calls Tryd.prog 15 #[.agg #[.bool lf, .slice A' n' c', .slice B' m' d'], .agg #[.bool y.2.leaf, .slice Q3 y.2.its.length q3, .slice R3 y.2.kds.length r3], .slice P3 y.1.length p3] W (GaveN W (jn l (k + 1)))) := Lib.hid fun W hW => by
                  rw [jn_succ hk0 HYK.out]
                  have hj := jn_len (k := k) hl120 HALL.out
                  have hn1 := HAP.out.2.1.nod.now.2.1.len
                  have hn2 := HAP.out.2.1.nod.now.2.2.len
                  have hs1 := HSY.out.1
                  have hs2 := HSY.out.2.1
                  exact Join_n W lf y.2.leaf _ _ _ _ _ _ _ _ _ _ _ _ _ (jn l k) y.2 y.1 ((HAP.out.2.1.later hW).nod.now) (HNY.out.later hW) (by omega) (by omega) (by omega) (by omega) (HSK.out.later hW) (by have := HKL.out; omega)
                go_upto_region 15 with (go_at_call 15; (with_reducible refine (HJ.out _ HOZ.out).mono ?_); rintro ee w20 ⟨JA, jo, jc, JB, jm, jd, rfl, hj, ho⟩; have HNJ := Lib.hid hj; clear hj g0 g1 g2; (replace HOZ := Lib.hid (on_new HOZ.out ho)); clear ho; (obtain ⟨g0, g1, g2⟩ := (HAP.out.1.later HOZ.out).tri); (obtain ⟨f0, f1, f2⟩ := (HAP.out.1.later HOZ.out).melt3))
                have HB8 := Lib.hid (HAP.out.1.later HOZ.out)
                have HO8 := Lib.hid (on_new HAP.out.2.2 HOZ.out)
                obtain ⟨W6, hW6⟩ : ∃ W6, W6 = (((w20.setCell ⟨W4.heap.size, 0, none⟩ (.bool (jn l (k + 1)).leaf)).setCell ⟨W4.heap.size, 1, none⟩ (.slice JA jo jc)).setCell ⟨W4.heap.size, 2, none⟩ (.slice JB jm jd)) := ⟨_, rfl⟩
                have hB6 : Blk W6 W4.heap.size 34 [.bool (jn l (k + 1)).leaf, .slice JA jo jc, .slice JB jm jd] := by rw [hW6]; exact ((HB8.out.set_ 0 _).set_ 1 _).set_ 2 _
                have hO6 : Only (· = W4.heap.size) w20 W6 := by rw [hW6]; exact (((Only.refl (· = W4.heap.size) _).setCell (p := ⟨W4.heap.size, 0, none⟩) rfl _).setCell (p := ⟨W4.heap.size, 1, none⟩) rfl _).setCell (p := ⟨W4.heap.size, 2, none⟩) rfl _
                have hS6 := (nod_free HB8.out HNJ.out).step (hO6.mono fun _ h => .inl h) fun k hk => .inl hk
                rw [← hW6]
                have HX6 : Hid (Blk W6 W4.heap.size 34 [.bool (jn l (k + 1)).leaf, .slice JA jo jc, .slice JB jm jd] ∧ SNod (· = W4.heap.size) W6 (jn l (k + 1)) (jn l (k + 1)).leaf (.slice JA jo jc) (.slice JB jm jd) ∧ Only (W4.heap.size ≤ ·) W4 W6) := Lib.hid ⟨hB6, hS6, HO8.out.trans (hO6.mono fun j hj => by omega)⟩
                clear hW6 hB6 hO6 hS6 g0 g1 g2 f0 f1 f2 e0 e1 e2 e3
                go_wp2
                go_roundw
                case rel => exact ⟨k + 1, _, _, _, _, _, _, _, by omega, by go_num, HX6⟩
                case measure => simp [intOf]; omega
              · have hk0i : ¬ (0 : Int) < (k : Int) := by omega
                obtain rfl : k = 0 := by omega
                have HX6 : Hid (Blk _ W4.heap.size 34 [.bool lf, .slice A' n' c', .slice B' m' d'] ∧ SNod (· = W4.heap.size) _ (jn l (0 + 1)) lf (.slice A' n' c') (.slice B' m' d') ∧ Only (W4.heap.size ≤ ·) W4 _) := Lib.hid ⟨HAP.out.1.later HOZ.out, by rw [(jn_zero HYK.out).2, ← (jn_zero HYK.out).1]; exact HAP.out.2.1.later HOZ.out, on_new HAP.out.2.2 HOZ.out⟩
                clear g0 g1 g2 e0 e1 e2 e3
                go_wp2
                go_roundw
                case rel => exact ⟨0 + 1, _, _, _, _, _, _, _, by omega, by go_num, HX6⟩
                case measure => simp [intOf]; omega
          · obtain rfl : k = l.length := by omega
            have HJX := Lib.hid (jn_all HCU.out HPU.out)
            have hlx : lf = x.leaf := by have h := HA.out.2.1.1; rwa [HJX.out] at h
            obtain rfl : lf = false := hlx.trans HLF.out.symm
            have HNA : Hid (Nod wr x false (.slice A' n' c') (.slice B' m' d')) := Lib.hid (by have h := HA.out.2.1.nod.now; rwa [HJX.out] at h)
            replace HNX := Lib.hid (HNX.out.later HA.out.2.2)
            obtain rfl : n' = x.its.length := HNA.out.2.1.len
            obtain rfl : m' = x.kds.length := HNA.out.2.2.len
            obtain rfl : qn = x.its.length := HNX.out.2.1.len
            obtain rfl : qm = x.kds.length := HNX.out.2.2.len
            have HXR := Lib.hid (HX.out.later HA.out.2.2)
            have HBR := Lib.hid (HB.out.later HA.out.2.2)
            have HNR := Lib.hid (HN.out.later (on_new HO.out HA.out.2.2))
            have HOL : Hid (∀ W, Only (wr.heap.size ≤ ·) wr W → Calls Tryd.prog 13 #[.agg #[.bool false, .slice QA x.its.length qc, .slice QB x.kds.length qd]] W (GaveF W false x)) := Lib.hid fun W hW => old_f W false QA QB x.its.length qc x.kds.length qd x HLF.out (HNX.out.later hW) HSM.out
            have HDS : Hid (∀ W OA oc OB od, Only (wr.heap.size ≤ ·) wr W → Nod W x false (.slice OA x.its.length oc) (.slice OB x.kds.length od) → Calls Tryd.prog 12 #[.agg #[.bool false, .slice OA x.its.length oc, .slice OB x.kds.length od], .agg #[.bool false, .slice A 0 c, .slice (some ⟨kb, ko, none⟩) m d]] W (Told W (.bool true))) := Lib.hid fun W OA oc OB od hW hno => by
              have h := HNR.out.later hW
              have e1 := h.2.1.len
              have e2 := h.2.2.len
              rw [← e1, ← e2] at hno ⊢
              exact DSame_eq W false _ _ _ _ _ _ _ _ _ _ x hno h (by have := HSM.out.1; omega) (by have := HSM.out.2.1; omega)
            have KZ : Hid (∀ W, Only (wr.heap.size ≤ ·) wr W → W.cell? ⟨W4.heap.size, 0, none⟩ = some (.bool false) ∧ W.cell? ⟨W4.heap.size, 1, none⟩ = some (.slice A' x.its.length c') ∧ W.cell? ⟨W4.heap.size, 2, none⟩ = some (.slice B' x.kds.length d') ∧ W.cell? ⟨W2.heap.size, 0, none⟩ = some (.bool false) ∧ W.cell? ⟨W2.heap.size, 1, none⟩ = some (.slice QA x.its.length qc) ∧ W.cell? ⟨W2.heap.size, 2, none⟩ = some (.slice QB x.kds.length qd) ∧ W.cell? ⟨w.heap.size, 0, none⟩ = some (.bool false) ∧ W.cell? ⟨w.heap.size, 1, none⟩ = some (.slice A 0 c) ∧ W.cell? ⟨w.heap.size, 2, none⟩ = some (.slice (some ⟨kb, ko, none⟩) m d)) := Lib.hid fun W hW => ⟨(HA.out.1.later hW).tri.1, (HA.out.1.later hW).tri.2.1, (HA.out.1.later hW).tri.2.2, (HXR.out.later hW).tri.1, (HXR.out.later hW).tri.2.1, (HXR.out.later hW).tri.2.2, (HBR.out.later hW).tri⟩
            have HOZ : Hid (Only (wr.heap.size ≤ ·) wr wr.drew) := Lib.hid (Only.refl _ wr).drew
            clear hlx
            go_wp2_with (fail)
            refine wp_region_list (B := [false, false, false, false, false, false, false, false, false, false, false, false, false]) (S := (fun W => W.cell? ⟨W4.heap.size, 0, none⟩ = some (.bool false) ∧ W.cell? ⟨W4.heap.size, 1, none⟩ = some (.slice A' x.its.length c') ∧ W.cell? ⟨W4.heap.size, 2, none⟩ = some (.slice B' x.kds.length d') ∧ W.cell? ⟨W2.heap.size, 0, none⟩ = some (.bool false) ∧ W.cell? ⟨W2.heap.size, 1, none⟩ = some (.slice QA x.its.length qc) ∧ W.cell? ⟨W2.heap.size, 2, none⟩ = some (.slice QB x.kds.length qd) ∧ W.cell? ⟨w.heap.size, 0, none⟩ = some (.bool false) ∧ W.cell? ⟨w.heap.size, 1, none⟩ = some (.slice A 0 c) ∧ W.cell? ⟨w.heap.size, 2, none⟩ = some (.slice (some ⟨kb, ko, none⟩) m d))) (by kernel_rfl) (by kernel_rfl) (by kernel_rfl) (KZ.out _ HOZ.out) (fun hsel hHeld => ?_)
            obtain ⟨wy, hwy⟩ : ∃ wy, wy = wr.drew := ⟨_, rfl⟩
            rw [← hwy] at HOZ hHeld
            rw [← hwy]
            clear hwy
            refine wpAnyL_ready (rs := [0]) (by kernel_rfl) (by kernel_rfl) (by simp) ?_
            refine AllReadyL.cons (o := ?_) ?_ (fun K hK => ?_) AllReadyL.nil
            case refine_2 => (simp only [List.getElem?_cons_zero]; rfl)
            go_simp
            (go_at_call 7; (with_reducible refine (HAL.out _ (on_new (on_new HO.out HA.out.2.2) HOZ.out)).mono ?_); rintro ee w11 ⟨rfl, ho⟩; (replace HOZ := Lib.hid (on_new HOZ.out ho)); clear ho)
            go_wp2_with (fail)
            clear hHeld
            refine hK.out _ _ (KZ.out _ HOZ.out) (fun hHeld => ?_)
            clear hK K
            try simp only [Act.put, List.setIfInBounds_toArray, List.set_cons_zero, List.set_cons_succ]
            refine take_oneL (i := 1) (d := 138) (oi := ?_) (v := ?_) ?_ hsel (by kernel_rfl) (by kernel_rfl) (fun _ _ _ h => h) ?_ ?_ ?_ (by assumption) ?_
            case refine_3 => (simp only [List.getElem?_cons_succ, List.getElem?_cons_zero]; rfl)
            case refine_4 => rfl
            case refine_5 => rfl
            case refine_6 => (intro w' hSw; (try dsimp only at hSw); go_simp; (try with_reducible rfl))
            simp only [Act.put, List.setIfInBounds_toArray, List.set_cons_zero, List.set_cons_succ]
            refine take_oneL (i := 2) (d := 139) (oi := ?_) (v := ?_) ?_ hsel (by kernel_rfl) (by kernel_rfl) (fun _ _ _ h => h) ?_ ?_ ?_ (by assumption) ?_
            case refine_3 => (simp only [List.getElem?_cons_succ, List.getElem?_cons_zero]; rfl)
            case refine_4 => rfl
            case refine_5 => rfl
            case refine_6 => (intro w' hSw; (try dsimp only at hSw); go_simp; (try with_reducible rfl))
            simp only [Act.put, List.setIfInBounds_toArray, List.set_cons_zero, List.set_cons_succ]
            refine take_oneL (i := 3) (d := 140) (oi := ?_) (v := ?_) ?_ hsel (by kernel_rfl) (by kernel_rfl) (fun _ _ _ h => h) ?_ ?_ ?_ (by assumption) ?_
            case refine_3 => (simp only [List.getElem?_cons_succ, List.getElem?_cons_zero]; rfl)
            case refine_4 => rfl
            case refine_5 => rfl
            case refine_6 => (intro w' hSw; (try dsimp only at hSw); go_simp; (try with_reducible rfl))
            simp only [Act.put, List.setIfInBounds_toArray, List.set_cons_zero, List.set_cons_succ]
            refine wpAnyL_ready (rs := [4]) (by kernel_rfl) (by kernel_rfl) (by simp) ?_
            refine AllReadyL.cons (o := ?_) ?_ (fun K hK => ?_) AllReadyL.nil
            case refine_2 => (simp only [List.getElem?_cons_succ, List.getElem?_cons_zero]; rfl)
            go_simp
            (go_at_call 16; (with_reducible refine (NSame_eq _ _ _ _ _ _ _ _ _ _ _ _ x (HNA.out.later HOZ.out) (HNX.out.later HOZ.out) HSX.out.1 HSX.out.2).mono ?_); rintro ee w12 ⟨rfl, ho⟩; (replace HOZ := Lib.hid (on_new HOZ.out ho)); clear ho)
            go_wp2_with (fail)
            clear hHeld
            refine hK.out _ _ (KZ.out _ HOZ.out) (fun hHeld => ?_)
            clear hK K
            try simp only [Act.put, List.setIfInBounds_toArray, List.set_cons_zero, List.set_cons_succ]
            refine take_oneL (i := 5) (d := 142) (oi := ?_) (v := ?_) ?_ hsel (by kernel_rfl) (by kernel_rfl) (fun _ _ _ h => h) ?_ ?_ ?_ (by assumption) ?_
            case refine_3 => (simp only [List.getElem?_cons_succ, List.getElem?_cons_zero]; rfl)
            case refine_4 => rfl
            case refine_5 => rfl
            case refine_6 => (intro w' hSw; (try dsimp only at hSw); go_simp; (try with_reducible rfl))
            simp only [Act.put, List.setIfInBounds_toArray, List.set_cons_zero, List.set_cons_succ]
            refine take_oneL (i := 6) (d := 143) (oi := ?_) (v := ?_) ?_ hsel (by kernel_rfl) (by kernel_rfl) (fun _ _ _ h => h) ?_ ?_ ?_ (by assumption) ?_
            case refine_3 => (simp only [List.getElem?_cons_succ, List.getElem?_cons_zero]; rfl)
            case refine_4 => rfl
            case refine_5 => rfl
            case refine_6 => (intro w' hSw; (try dsimp only at hSw); go_simp; (try with_reducible rfl))
            simp only [Act.put, List.setIfInBounds_toArray, List.set_cons_zero, List.set_cons_succ]
            refine take_oneL (i := 7) (d := 144) (oi := ?_) (v := ?_) ?_ hsel (by kernel_rfl) (by kernel_rfl) (fun _ _ _ h => h) ?_ ?_ ?_ (by assumption) ?_
            case refine_3 => (simp only [List.getElem?_cons_succ, List.getElem?_cons_zero]; rfl)
            case refine_4 => rfl
            case refine_5 => rfl
            case refine_6 => (intro w' hSw; (try dsimp only at hSw); go_simp; (try with_reducible rfl))
            simp only [Act.put, List.setIfInBounds_toArray, List.set_cons_zero, List.set_cons_succ]
            refine take_oneL (i := 9) (d := 146) (oi := ?_) (v := ?_) ?_ hsel (by kernel_rfl) (by kernel_rfl) (fun _ _ _ h => h) ?_ ?_ ?_ (by assumption) ?_
            case refine_3 => (simp only [List.getElem?_cons_succ, List.getElem?_cons_zero]; rfl)
            case refine_4 => rfl
            case refine_5 => rfl
            case refine_6 => (intro w' hSw; (try dsimp only at hSw); go_simp; (try with_reducible rfl))
            simp only [Act.put, List.setIfInBounds_toArray, List.set_cons_zero, List.set_cons_succ]
            refine wpAnyL_ready (rs := [8]) (by kernel_rfl) (by kernel_rfl) (by simp) ?_
            refine AllReadyL.cons (o := ?_) ?_ (fun K hK => ?_) AllReadyL.nil
            case refine_2 => (simp only [List.getElem?_cons_succ, List.getElem?_cons_zero]; rfl)
            go_simp
            (go_at_call 13; (with_reducible refine (HOL.out _ HOZ.out).mono ?_); rintro ee w13 ⟨OA, on, oc, OB, om, od, rfl, hno, ho⟩; (obtain rfl := hno.2.1.len); (obtain rfl := hno.2.2.len); have HNO := Lib.hid hno; clear hno; (replace HOZ := Lib.hid (on_new HOZ.out ho)); clear ho)
            go_wp2_with (fail)
            clear hHeld
            refine hK.out _ _ (KZ.out _ HOZ.out) (fun hHeld => ?_)
            clear hK K
            try simp only [Act.put, List.setIfInBounds_toArray, List.set_cons_zero, List.set_cons_succ]
            refine wpAnyL_ready (rs := [10]) (by kernel_rfl) (by kernel_rfl) (by simp) ?_
            refine AllReadyL.cons (o := ?_) ?_ (fun K hK => ?_) AllReadyL.nil
            case refine_2 => (simp only [List.getElem?_cons_succ, List.getElem?_cons_zero]; rfl)
            go_simp
            (go_at_call 12; (with_reducible refine (HDS.out _ _ _ _ _ HOZ.out HNO.out).mono ?_); rintro ee w14 ⟨rfl, ho⟩; (replace HOZ := Lib.hid (on_new HOZ.out ho)); clear ho)
            go_wp2_with (fail)
            clear hHeld
            refine hK.out _ _ (KZ.out _ HOZ.out) (fun hHeld => ?_)
            clear hK K
            try simp only [Act.put, List.setIfInBounds_toArray, List.set_cons_zero, List.set_cons_succ]
            refine take_oneL (i := 11) (d := 148) (oi := ?_) (v := ?_) ?_ hsel (by kernel_rfl) (by kernel_rfl) (fun _ _ _ h => h) ?_ ?_ ?_ (by assumption) ?_
            case refine_3 => (simp only [List.getElem?_cons_succ, List.getElem?_cons_zero]; rfl)
            case refine_4 => rfl
            case refine_5 => rfl
            case refine_6 => (intro w' hSw; (try dsimp only at hSw); go_simp; (try with_reducible rfl))
            simp only [Act.put, List.setIfInBounds_toArray, List.set_cons_zero, List.set_cons_succ]
            refine take_oneL (i := 12) (d := 4) (oi := ?_) (v := ?_) ?_ hsel (by kernel_rfl) (by kernel_rfl) (fun _ _ _ h => h) ?_ ?_ ?_ (by assumption) ?_
            case refine_3 => (simp only [List.getElem?_cons_succ, List.getElem?_cons_zero]; rfl)
            case refine_4 => rfl
            case refine_5 => rfl
            case refine_6 => (intro w' hSw; (try dsimp only at hSw); go_simp; (try with_reducible rfl))
            simp only [Act.put, List.setIfInBounds_toArray, List.set_cons_zero, List.set_cons_succ]
            refine wpAnyL_done (by kernel_rfl) (by kernel_rfl) ?_ _
            clear hsel hHeld
            go_wp2
            go_ret
            exact ⟨rfl, on_new (on_new HO.out HA.out.2.2) HOZ.out⟩
    · obtain rfl : m = 0 := by omega
      go_upto_region 3 with ((go_at_call 6; (with_reducible refine (HF.out _ HO.out).mono ?_); rintro ee W1 ⟨rfl, ho⟩; clear b0 b1 b2; (replace HO := Lib.hid (on_new HO.out ho)); (replace HB := Lib.hid (HB.out.later ho)); (obtain ⟨b0, b1, b2⟩ := HB.out.tri); clear ho))
      have HSM := Lib.hid HFW.out.small
      have HPU : Hid (Pure x) := Lib.hid (by
        have h := HL.out
        unfold Pure
        rw [← h.1]
        first | exact List.eq_nil_of_length_eq_zero h.2.2.symm | exact List.eq_nil_of_length_eq_zero h.2.1.symm)
      have HM60 : Hid (many x ≤ 120) := Lib.hid (by have h := HFW.out; rw [HPU.out.many]; have := h.1; have := h.2.1; omega)
      have HSX : Hid (x.its.length ≤ 1000 ∧ x.kds.length ≤ 1000) := Lib.hid ⟨HSM.out.1, HSM.out.2.1⟩
      have HLF : Hid (false = x.leaf) := Lib.hid HL.out.1
      have HOF : Hid (∀ W, Only (w.heap.size ≤ ·) w W → Calls Tryd.prog 8 #[.agg #[.bool false, .slice A 0 c, .slice B 0 d]] W (GaveF W false x)) := Lib.hid fun W hW => (NOf_c W _ _ _ _ _ _ _ x (HN.out.later hW) HSM.out).mono fun e w' h => h.toF HLF.out
      go_upto_region 4 with (go_at_call 8; (with_reducible refine (HOF.out _ HO.out).mono ?_); rintro ee W2 ⟨QA, qn, qc, QB, qm, qd, rfl, hn2, ho⟩; have HN2 := Lib.hid hn2; clear hn2 b0 b1 b2; (replace HO := Lib.hid (on_new HO.out ho)); (replace HB := Lib.hid (HB.out.later ho)); (obtain ⟨b0, b1, b2⟩ := HB.out.tri); clear ho)
      obtain ⟨wa, hwa⟩ : ∃ wa, wa = W2.alloc (.cells #[.bool false, .slice QA qn qc, .slice QB qm qd] 34) := ⟨_, rfl⟩
      have hBx : Blk wa W2.heap.size 34 [.bool false, .slice QA qn qc, .slice QB qm qd] := by rw [hwa]; exact Blk.new W2 34 _
      have hoa : Only (W2.heap.size ≤ ·) W2 wa := by rw [hwa]; exact (Only.refl _ W2).alloc (fun _ h => h) _
      rw [← hwa]
      replace HB := Lib.hid (HB.out.later hoa)
      replace HO := Lib.hid (on_new HO.out hoa)
      replace HN2 := Lib.hid (HN2.out.later hoa)
      have HX := Lib.hid hBx
      clear hwa hBx hoa b0 b1 b2 HOF
      have KX : Hid (∀ W, Only (wa.heap.size ≤ ·) wa W → W.cell? ⟨W2.heap.size, 0, none⟩ = some (.bool false) ∧ W.cell? ⟨W2.heap.size, 1, none⟩ = some (.slice QA qn qc) ∧ W.cell? ⟨W2.heap.size, 2, none⟩ = some (.slice QB qm qd) ∧ W.cell? ⟨w.heap.size, 0, none⟩ = some (.bool false) ∧ W.cell? ⟨w.heap.size, 1, none⟩ = some (.slice A 0 c) ∧ W.cell? ⟨w.heap.size, 2, none⟩ = some (.slice B 0 d)) := Lib.hid fun W hW => ⟨(HX.out.later hW).tri.1, (HX.out.later hW).tri.2.1, (HX.out.later hW).tri.2.2, (HB.out.later hW).tri⟩
      have HOZ : Hid (Only (wa.heap.size ≤ ·) wa wa.drew) := Lib.hid (Only.refl _ wa).drew
      refine wp_region_list (B := [false, false, false, false, false, false, false, false]) (S := (fun W => W.cell? ⟨W2.heap.size, 0, none⟩ = some (.bool false) ∧ W.cell? ⟨W2.heap.size, 1, none⟩ = some (.slice QA qn qc) ∧ W.cell? ⟨W2.heap.size, 2, none⟩ = some (.slice QB qm qd) ∧ W.cell? ⟨w.heap.size, 0, none⟩ = some (.bool false) ∧ W.cell? ⟨w.heap.size, 1, none⟩ = some (.slice A 0 c) ∧ W.cell? ⟨w.heap.size, 2, none⟩ = some (.slice B 0 d))) (by kernel_rfl) (by kernel_rfl) (by kernel_rfl) (KX.out _ HOZ.out) (fun hsel hHeld => ?_)
      obtain ⟨wz, hwz⟩ : ∃ wz, wz = wa.drew := ⟨_, rfl⟩
      rw [← hwz] at HOZ hHeld
      rw [← hwz]
      clear hwz
      refine take_oneL (i := 0) (d := 61) (oi := ?_) (v := ?_) ?_ hsel (by kernel_rfl) (by kernel_rfl) (fun _ _ _ h => h) ?_ ?_ ?_ (by assumption) ?_
      case refine_3 => (simp only [List.getElem?_cons_zero]; rfl)
      case refine_4 => rfl
      case refine_5 => rfl
      case refine_6 => (intro w' hSw; (try dsimp only at hSw); go_simp; (try with_reducible rfl))
      simp only [Act.put, List.setIfInBounds_toArray, List.set_cons_zero, List.set_cons_succ]
      refine take_oneL (i := 1) (d := 62) (oi := ?_) (v := ?_) ?_ hsel (by kernel_rfl) (by kernel_rfl) (fun _ _ _ h => h) ?_ ?_ ?_ (by assumption) ?_
      case refine_3 => (simp only [List.getElem?_cons_succ, List.getElem?_cons_zero]; rfl)
      case refine_4 => rfl
      case refine_5 => rfl
      case refine_6 => (intro w' hSw; (try dsimp only at hSw); go_simp; (try with_reducible rfl))
      simp only [Act.put, List.setIfInBounds_toArray, List.set_cons_zero, List.set_cons_succ]
      refine take_oneL (i := 3) (d := 64) (oi := ?_) (v := ?_) ?_ hsel (by kernel_rfl) (by kernel_rfl) (fun _ _ _ h => h) ?_ ?_ ?_ (by assumption) ?_
      case refine_3 => (simp only [List.getElem?_cons_succ, List.getElem?_cons_zero]; rfl)
      case refine_4 => rfl
      case refine_5 => rfl
      case refine_6 => (intro w' hSw; (try dsimp only at hSw); go_simp; (try with_reducible rfl))
      simp only [Act.put, List.setIfInBounds_toArray, List.set_cons_zero, List.set_cons_succ]
      refine take_oneL (i := 4) (d := 65) (oi := ?_) (v := ?_) ?_ hsel (by kernel_rfl) (by kernel_rfl) (fun _ _ _ h => h) ?_ ?_ ?_ (by assumption) ?_
      case refine_3 => (simp only [List.getElem?_cons_succ, List.getElem?_cons_zero]; rfl)
      case refine_4 => rfl
      case refine_5 => rfl
      case refine_6 => (intro w' hSw; (try dsimp only at hSw); go_simp; (try with_reducible rfl))
      simp only [Act.put, List.setIfInBounds_toArray, List.set_cons_zero, List.set_cons_succ]
      refine wpAnyL_ready (rs := [2]) (by kernel_rfl) (by kernel_rfl) (by simp) ?_
      refine AllReadyL.cons (o := ?_) ?_ (fun K hK => ?_) AllReadyL.nil
      case refine_2 => (simp only [List.getElem?_cons_succ, List.getElem?_cons_zero]; rfl)
      go_simp
      (go_at_call 9; (with_reducible refine (Parts_n _ false _ _ _ _ _ _ x g (HN2.out.later HOZ.out) (HG.out.later (on_new HO.out HOZ.out)) HSM.out).mono ?_); rintro ee W3 ⟨PA, pn, pc, l, rfl, hcu, hpt, ho⟩; have HCU := Lib.hid hcu; have HP := Lib.hid hpt; clear hcu hpt; (replace HOZ := Lib.hid (on_new HOZ.out ho)); clear ho)
      go_wp2_with (fail)
      clear hHeld
      refine hK.out _ _ (KX.out _ HOZ.out) (fun hHeld => ?_)
      clear hK K
      try simp only [Act.put, List.setIfInBounds_toArray, List.set_cons_zero, List.set_cons_succ]
      refine wpAnyL_ready (rs := [5]) (by kernel_rfl) (by kernel_rfl) (by simp) ?_
      refine AllReadyL.cons (o := ?_) ?_ (fun K hK => ?_) AllReadyL.nil
      case refine_2 => (simp only [List.getElem?_cons_succ, List.getElem?_cons_zero]; rfl)
      go_simp
      (go_at_call 10; (with_reducible refine (DParts_c g (many x) _ (fun _ => False) false none _ _ 0 0 _ _ _ _ [] x (Nat.le_refl _) HSM.out (fun k h => h.elim) (HN.out.later (on_new HO.out HOZ.out)).snod rfl (Src.nil_ _).stab).mono ?_); rintro ee W4 ⟨WA, wn, wc, l2, C2, rfl, hcu2, hwn, hown, hden, ho⟩; (obtain rfl := Cuts.uniq HCU.out hcu2); (replace HP := Lib.hid (HP.out.later ho)); have HW : Hid (Pts W4 (.slice WA wn wc) l) := Lib.hid (Own.rw_ ⟨hwn, C2, hden.now, hown⟩); clear hcu2 hwn hown hden; (replace HOZ := Lib.hid (on_new HOZ.out ho)); clear ho)
      go_wp2_with (fail)
      clear hHeld
      refine hK.out _ _ (KX.out _ HOZ.out) (fun hHeld => ?_)
      clear hK K
      try simp only [Act.put, List.setIfInBounds_toArray, List.set_cons_zero, List.set_cons_succ]
      refine take_oneL (i := 6) (d := 6) (oi := ?_) (v := ?_) ?_ hsel (by kernel_rfl) (by kernel_rfl) (fun _ _ _ h => h) ?_ ?_ ?_ (by assumption) ?_
      case refine_3 => (simp only [List.getElem?_cons_succ, List.getElem?_cons_zero]; rfl)
      case refine_4 => rfl
      case refine_5 => rfl
      case refine_6 => (intro w' hSw; (try dsimp only at hSw); go_simp; (try with_reducible rfl))
      simp only [Act.put, List.setIfInBounds_toArray, List.set_cons_zero, List.set_cons_succ]
      refine take_oneL (i := 7) (d := 7) (oi := ?_) (v := ?_) ?_ hsel (by kernel_rfl) (by kernel_rfl) (fun _ _ _ h => h) ?_ ?_ ?_ (by assumption) ?_
      case refine_3 => (simp only [List.getElem?_cons_succ, List.getElem?_cons_zero]; rfl)
      case refine_4 => rfl
      case refine_5 => rfl
      case refine_6 => (intro w' hSw; (try dsimp only at hSw); go_simp; (try with_reducible rfl))
      simp only [Act.put, List.setIfInBounds_toArray, List.set_cons_zero, List.set_cons_succ]
      refine wpAnyL_done (by kernel_rfl) (by kernel_rfl) ?_ _
      clear hsel hHeld
      replace HO := Lib.hid (on_new HO.out HOZ.out)
      replace HB := Lib.hid (HB.out.later HOZ.out)
      replace HX := Lib.hid (HX.out.later HOZ.out)
      have HNX := Lib.hid (HN2.out.later HOZ.out)
      clear KX HOZ HN2
      obtain rfl : pn = l.length := HP.out.len
      obtain rfl : wn = l.length := HW.out.len
      have hpc := HP.out.cap
      have hwc := HW.out.cap
      have HLE : Hid (l.length ≤ 120 ∧ 0 < l.length) := Lib.hid ⟨by have := HCU.out.most; have := HM60.out; omega, HCU.out.pos⟩
      have hl120 := HLE.out.1
      have hl0 : (0 : Int) < (l.length : Int) := by have := HLE.out.2; omega
      have hl00 : ((l.length : Int) == 0) = false := by have := HLE.out.2; rw [beq_eq_false_iff_ne]; omega
      have HSALL : Hid (∀ p ∈ l, Small p.2) := Lib.hid (HCU.out.all (fun y k h _ _ => h.halves k) HSM.out)
      have HALL : Hid (∀ p ∈ l, p.2.its.length ≤ 60 ∧ p.2.kds.length ≤ 60) := Lib.hid (HCU.out.all (P := fun y => y.its.length ≤ 60 ∧ y.kds.length ≤ 60) (fun y k h _ _ => sixty h k) ⟨HFW.out.1, HFW.out.2.1⟩)
      have HKEYS : Hid (∀ p ∈ l, p.1.length ≤ 1000) := Lib.hid (HCU.out.keys HSM.out (by simp))
      obtain ⟨pb, po, y0, P1, Q1, R1, p1, q1, r1, rfl, hpb, hy0, c0, c1, c2, c3, _, n0⟩ := pts_at HP.out (k := 0) HLE.out.2
      simp only [Nat.zero_mul, Nat.add_zero] at c0 c1 c2 c3
      have HN0 := Lib.hid n0
      have HY0 := Lib.hid hy0
      clear n0 hy0 hpb
      go_wp2
      obtain ⟨we, hwe⟩ : ∃ we, we = W4.alloc (.cells #[.bool y0.2.leaf, .slice Q1 y0.2.its.length q1, .slice R1 y0.2.kds.length r1] 34) := ⟨_, rfl⟩
      have hBa : Blk we W4.heap.size 34 [.bool y0.2.leaf, .slice Q1 y0.2.its.length q1, .slice R1 y0.2.kds.length r1] := by rw [hwe]; exact Blk.new W4 34 _
      have hue : Only (W4.heap.size ≤ ·) W4 we := by rw [hwe]; exact (Only.refl _ W4).alloc (fun _ h => h) _
      have HA0 : Hid (Blk we W4.heap.size 34 [.bool y0.2.leaf, .slice Q1 y0.2.its.length q1, .slice R1 y0.2.kds.length r1] ∧ SNod (· = W4.heap.size) we (jn l 0) y0.2.leaf (.slice Q1 y0.2.its.length q1) (.slice R1 y0.2.kds.length r1) ∧ Only (W4.heap.size ≤ ·) W4 we) := Lib.hid ⟨hBa, by rw [(jn_zero HY0.out).1]; exact nod_free hBa (HN0.out.later hue), hue⟩
      rw [← hwe]
      clear hwe hBa hue HN0 c0 c1 c2 c3
      go_loopw [83] (fun i wr => ∃ (k : Nat) (lf : Bool) (A' B' : Option Addr) (n' c' m' d' : Nat), k ≤ l.length ∧ i = .int .i64 k ∧ Hid (Blk wr W4.heap.size 34 [.bool lf, .slice A' n' c', .slice B' m' d'] ∧ SNod (· = W4.heap.size) wr (jn l k) lf (.slice A' n' c') (.slice B' m' d') ∧ Only (W4.heap.size ≤ ·) W4 wr)) (fun i _ => l.length - (intOf i).toNat)
      case atStart => exact ⟨0, _, _, _, _, _, _, _, Nat.zero_le _, rfl, HA0⟩
      case round =>
        clear HA0 HY0
        obtain ⟨k, lf, A', B', n', c', m', d', hk, rfl, HA⟩ := hrel
        by_cases hlt : k < l.length
        · have hlti : (k : Int) < (l.length : Int) := by omega
          obtain ⟨pb', po', y, P3, Q3, R3, p3, q3, r3, e3, hpb, hy, c0, c1, c2, c3, s3, n3⟩ := pts_at (HP.out.later HA.out.2.2) hlt
          cases e3
          obtain ⟨vb, vo, y', V1, V2, V3, v1, v2, v3, rfl, hvb, hy', d0, d1, d2, d3, s4, n4⟩ := pts_at (HW.out.later HA.out.2.2) hlt
          obtain rfl : y = y' := Option.some.inj (hy.symm.trans hy')
          have HYK := Lib.hid hy
          have hyl : y ∈ l := List.mem_of_getElem? hy
          have HSY := Lib.hid (HSALL.out y hyl)
          have HSN : Hid (y.2.its.length ≤ 1000 ∧ y.2.kds.length ≤ 1000) := Lib.hid ⟨HSY.out.1, HSY.out.2.1⟩
          have HKL := Lib.hid (HKEYS.out y hyl)
          have HFT := Lib.hid (HCU.out.fits y hyl)
          have HPY := Lib.hid (HCU.out.pures HPU.out y hyl)
          have HDV : Hid (∀ W, Only (wr.heap.size ≤ ·) wr W → W.cell? ⟨vb, vo + k * 4, none⟩ = some (.slice V1 y.1.length v1) ∧ W.cell? ⟨vb, vo + k * 4 + 1, none⟩ = some (.bool y.2.leaf) ∧ W.cell? ⟨vb, vo + k * 4 + 2, none⟩ = some (.slice V2 y.2.its.length v2) ∧ W.cell? ⟨vb, vo + k * 4 + 3, none⟩ = some (.slice V3 y.2.kds.length v3)) := Lib.hid fun W hW => ⟨(hW.cell (p := ⟨vb, vo + k * 4, none⟩) (Nat.not_le.2 hvb)).trans d0, (hW.cell (p := ⟨vb, vo + k * 4 + 1, none⟩) (Nat.not_le.2 hvb)).trans d1, (hW.cell (p := ⟨vb, vo + k * 4 + 2, none⟩) (Nat.not_le.2 hvb)).trans d2, (hW.cell (p := ⟨vb, vo + k * 4 + 3, none⟩) (Nat.not_le.2 hvb)).trans d3⟩
          have HS3 := Lib.hid s3
          have HS4 := Lib.hid s4
          have HN3 := Lib.hid n3
          have HN4 := Lib.hid n4
          clear hy hy' hyl hpb hvb d0 d1 d2 d3 s3 s4 n3 n4
          go_upto_region 11 with (fail)
          obtain ⟨wp, hwp⟩ : ∃ wp, wp = wr.alloc (.cells #[.slice P3 y.1.length p3, .bool y.2.leaf, .slice Q3 y.2.its.length q3, .slice R3 y.2.kds.length r3] 41) := ⟨_, rfl⟩
          have hBp : Blk wp wr.heap.size 41 [.slice P3 y.1.length p3, .bool y.2.leaf, .slice Q3 y.2.its.length q3, .slice R3 y.2.kds.length r3] := by rw [hwp]; exact Blk.new wr 41 _
          have hop : Only (wr.heap.size ≤ ·) wr wp := by rw [hwp]; exact (Only.refl _ wr).alloc (fun _ h => h) _
          rw [← hwp]
          have HBP := Lib.hid hBp
          have HAP : Hid (Blk wp W4.heap.size 34 [.bool lf, .slice A' n' c', .slice B' m' d'] ∧ SNod (· = W4.heap.size) wp (jn l k) lf (.slice A' n' c') (.slice B' m' d') ∧ Only (W4.heap.size ≤ ·) W4 wp) := Lib.hid ⟨HA.out.1.later hop, HA.out.2.1.later hop, on_new HA.out.2.2 hop⟩
          have HOP := Lib.hid (on_new HO.out HAP.out.2.2)
          have HSK := Lib.hid (HS3.out.later hop)
          have HSV := Lib.hid (HS4.out.later hop)
          have HNY := Lib.hid (HN3.out.later hop)
          have HNV := Lib.hid (HN4.out.later hop)
          have KP : Hid (∀ W, Only (wp.heap.size ≤ ·) wp W → W.cell? ⟨wr.heap.size, 0, none⟩ = some (.slice P3 y.1.length p3) ∧ W.cell? ⟨wr.heap.size, 1, none⟩ = some (.bool y.2.leaf) ∧ W.cell? ⟨wr.heap.size, 2, none⟩ = some (.slice Q3 y.2.its.length q3) ∧ W.cell? ⟨wr.heap.size, 3, none⟩ = some (.slice R3 y.2.kds.length r3) ∧ W.cell? ⟨vb, vo + k * 4, none⟩ = some (.slice V1 y.1.length v1) ∧ W.cell? ⟨vb, vo + k * 4 + 1, none⟩ = some (.bool y.2.leaf) ∧ W.cell? ⟨vb, vo + k * 4 + 2, none⟩ = some (.slice V2 y.2.its.length v2) ∧ W.cell? ⟨vb, vo + k * 4 + 3, none⟩ = some (.slice V3 y.2.kds.length v3)) := Lib.hid fun W hW => ⟨(HBP.out.later hW).cell 0, (HBP.out.later hW).cell 1, (HBP.out.later hW).cell 2, (HBP.out.later hW).cell 3, HDV.out W (on_new hop hW)⟩
          have HOZ : Hid (Only (wp.heap.size ≤ ·) wp wp.drew) := Lib.hid (Only.refl _ wp).drew
          clear hwp hBp hop HS3 HS4 HN3 HN4 c0 c1 c2 c3
          obtain ⟨my, hmy⟩ : ∃ my, my = many y.2 := ⟨_, rfl⟩
          have hms : my = y.2.its.length + y.2.kds.length := by rw [hmy]; exact HPY.out.many
          have hw1 : IntKind.i64.wrap ((y.2.its.length : Int) + (y.2.kds.length : Int)) = (my : Int) := by have h1 := HSY.out.1; have h2 := HSY.out.2.1; rw [IntWalk.i64_in _ (by omega)]; omega
          have HMY := Lib.hid hmy
          clear hmy hms
          obtain ⟨b, hb⟩ : ∃ b, nfit g y.2 = b := ⟨_, rfl⟩
          have HBF := Lib.hid hb
          clear hb
          cases b
          · have hmy1 : ¬ (1 : Int) < (my : Int) := by
              have h := HFT.out
              rw [HBF.out] at h
              rcases h with h | h
              · cases h
              · have := HMY.out; omega
            refine wp_region_list (B := [false, false, false, false, false, false, false, false, false, false, false, false, false, false, false, false, false, false, false, false, false, false, false, false, false, false, false, false, false, false, false, false, false, false, false, false, false, false, false, false]) (S := (fun W => W.cell? ⟨wr.heap.size, 0, none⟩ = some (.slice P3 y.1.length p3) ∧ W.cell? ⟨wr.heap.size, 1, none⟩ = some (.bool y.2.leaf) ∧ W.cell? ⟨wr.heap.size, 2, none⟩ = some (.slice Q3 y.2.its.length q3) ∧ W.cell? ⟨wr.heap.size, 3, none⟩ = some (.slice R3 y.2.kds.length r3) ∧ W.cell? ⟨vb, vo + k * 4, none⟩ = some (.slice V1 y.1.length v1) ∧ W.cell? ⟨vb, vo + k * 4 + 1, none⟩ = some (.bool y.2.leaf) ∧ W.cell? ⟨vb, vo + k * 4 + 2, none⟩ = some (.slice V2 y.2.its.length v2) ∧ W.cell? ⟨vb, vo + k * 4 + 3, none⟩ = some (.slice V3 y.2.kds.length v3))) (by kernel_rfl) (by kernel_rfl) (by kernel_rfl) (KP.out _ HOZ.out) (fun hsel hHeld => ?_)
            obtain ⟨wq, hwq⟩ : ∃ wq, wq = wp.drew := ⟨_, rfl⟩
            rw [← hwq] at HOZ hHeld
            rw [← hwq]
            clear hwq
            refine take_oneL (i := 0) (d := 88) (oi := ?_) (v := ?_) ?_ hsel (by kernel_rfl) (by kernel_rfl) (fun _ _ _ h => h) ?_ ?_ ?_ (by assumption) ?_
            case refine_3 => (simp only [List.getElem?_cons_zero]; rfl)
            case refine_4 => rfl
            case refine_5 => rfl
            case refine_6 => (intro w' hSw; (try dsimp only at hSw); go_simp; (try with_reducible rfl))
            simp only [Act.put, List.setIfInBounds_toArray, List.set_cons_zero, List.set_cons_succ]
            refine take_oneL (i := 1) (d := 89) (oi := ?_) (v := ?_) ?_ hsel (by kernel_rfl) (by kernel_rfl) (fun _ _ _ h => h) ?_ ?_ ?_ (by assumption) ?_
            case refine_3 => (simp only [List.getElem?_cons_succ, List.getElem?_cons_zero]; rfl)
            case refine_4 => rfl
            case refine_5 => rfl
            case refine_6 => (intro w' hSw; (try dsimp only at hSw); go_simp; (try with_reducible rfl))
            simp only [Act.put, List.setIfInBounds_toArray, List.set_cons_zero, List.set_cons_succ]
            refine take_oneL (i := 2) (d := 90) (oi := ?_) (v := ?_) ?_ hsel (by kernel_rfl) (by kernel_rfl) (fun _ _ _ h => h) ?_ ?_ ?_ (by assumption) ?_
            case refine_3 => (simp only [List.getElem?_cons_succ, List.getElem?_cons_zero]; rfl)
            case refine_4 => rfl
            case refine_5 => rfl
            case refine_6 => (intro w' hSw; (try dsimp only at hSw); go_simp; (try with_reducible rfl))
            simp only [Act.put, List.setIfInBounds_toArray, List.set_cons_zero, List.set_cons_succ]
            refine take_oneL (i := 3) (d := 91) (oi := ?_) (v := ?_) ?_ hsel (by kernel_rfl) (by kernel_rfl) (fun _ _ _ h => h) ?_ ?_ ?_ (by assumption) ?_
            case refine_3 => (simp only [List.getElem?_cons_succ, List.getElem?_cons_zero]; rfl)
            case refine_4 => rfl
            case refine_5 => rfl
            case refine_6 => (intro w' hSw; (try dsimp only at hSw); go_simp; (try with_reducible rfl))
            simp only [Act.put, List.setIfInBounds_toArray, List.set_cons_zero, List.set_cons_succ]
            refine take_oneL (i := 4) (d := 92) (oi := ?_) (v := ?_) ?_ hsel (by kernel_rfl) (by kernel_rfl) (fun _ _ _ h => h) ?_ ?_ ?_ (by assumption) ?_
            case refine_3 => (simp only [List.getElem?_cons_succ, List.getElem?_cons_zero]; rfl)
            case refine_4 => rfl
            case refine_5 => rfl
            case refine_6 => (intro w' hSw; (try dsimp only at hSw); go_simp; (try with_reducible rfl))
            simp only [Act.put, List.setIfInBounds_toArray, List.set_cons_zero, List.set_cons_succ]
            refine take_oneL (i := 5) (d := 93) (oi := ?_) (v := ?_) ?_ hsel (by kernel_rfl) (by kernel_rfl) (fun _ _ _ h => h) ?_ ?_ ?_ (by assumption) ?_
            case refine_3 => (simp only [List.getElem?_cons_succ, List.getElem?_cons_zero]; rfl)
            case refine_4 => rfl
            case refine_5 => rfl
            case refine_6 => (intro w' hSw; (try dsimp only at hSw); go_simp; (try with_reducible rfl))
            simp only [Act.put, List.setIfInBounds_toArray, List.set_cons_zero, List.set_cons_succ]
            refine take_oneL (i := 6) (d := 94) (oi := ?_) (v := ?_) ?_ hsel (by kernel_rfl) (by kernel_rfl) (fun _ _ _ h => h) ?_ ?_ ?_ (by assumption) ?_
            case refine_3 => (simp only [List.getElem?_cons_succ, List.getElem?_cons_zero]; rfl)
            case refine_4 => rfl
            case refine_5 => rfl
            case refine_6 => (intro w' hSw; (try dsimp only at hSw); go_simp; (try with_reducible rfl))
            simp only [Act.put, List.setIfInBounds_toArray, List.set_cons_zero, List.set_cons_succ]
            refine wpAnyL_ready (rs := [7]) (by kernel_rfl) (by kernel_rfl) (by simp) ?_
            refine AllReadyL.cons (o := ?_) ?_ (fun K hK => ?_) AllReadyL.nil
            case refine_2 => (simp only [List.getElem?_cons_succ, List.getElem?_cons_zero]; rfl)
            go_simp
            (go_at_call 11; (with_reducible refine (Equal_b _ _ _ y.1 y.1 true (HSK.out.later HOZ.out) (HSV.out.later HOZ.out) (by simp)).mono ?_); rintro ee w7 ⟨rfl, rfl⟩)
            go_wp2_with (fail)
            clear hHeld
            refine hK.out _ _ (KP.out _ HOZ.out) (fun hHeld => ?_)
            clear hK K
            try simp only [Act.put, List.setIfInBounds_toArray, List.set_cons_zero, List.set_cons_succ]
            refine take_oneL (i := 8) (d := 96) (oi := ?_) (v := ?_) ?_ hsel (by kernel_rfl) (by kernel_rfl) (fun _ _ _ h => h) ?_ ?_ ?_ (by assumption) ?_
            case refine_3 => (simp only [List.getElem?_cons_succ, List.getElem?_cons_zero]; rfl)
            case refine_4 => rfl
            case refine_5 => rfl
            case refine_6 => (intro w' hSw; (try dsimp only at hSw); go_simp; (try with_reducible rfl))
            simp only [Act.put, List.setIfInBounds_toArray, List.set_cons_zero, List.set_cons_succ]
            refine take_oneL (i := 9) (d := 97) (oi := ?_) (v := ?_) ?_ hsel (by kernel_rfl) (by kernel_rfl) (fun _ _ _ h => h) ?_ ?_ ?_ (by assumption) ?_
            case refine_3 => (simp only [List.getElem?_cons_succ, List.getElem?_cons_zero]; rfl)
            case refine_4 => rfl
            case refine_5 => rfl
            case refine_6 => (intro w' hSw; (try dsimp only at hSw); go_simp; (try with_reducible rfl))
            simp only [Act.put, List.setIfInBounds_toArray, List.set_cons_zero, List.set_cons_succ]
            refine take_oneL (i := 10) (d := 98) (oi := ?_) (v := ?_) ?_ hsel (by kernel_rfl) (by kernel_rfl) (fun _ _ _ h => h) ?_ ?_ ?_ (by assumption) ?_
            case refine_3 => (simp only [List.getElem?_cons_succ, List.getElem?_cons_zero]; rfl)
            case refine_4 => rfl
            case refine_5 => rfl
            case refine_6 => (intro w' hSw; (try dsimp only at hSw); go_simp; (try with_reducible rfl))
            simp only [Act.put, List.setIfInBounds_toArray, List.set_cons_zero, List.set_cons_succ]
            refine take_oneL (i := 11) (d := 99) (oi := ?_) (v := ?_) ?_ hsel (by kernel_rfl) (by kernel_rfl) (fun _ _ _ h => h) ?_ ?_ ?_ (by assumption) ?_
            case refine_3 => (simp only [List.getElem?_cons_succ, List.getElem?_cons_zero]; rfl)
            case refine_4 => rfl
            case refine_5 => rfl
            case refine_6 => (intro w' hSw; (try dsimp only at hSw); go_simp; (try with_reducible rfl))
            simp only [Act.put, List.setIfInBounds_toArray, List.set_cons_zero, List.set_cons_succ]
            refine take_oneL (i := 13) (d := 101) (oi := ?_) (v := ?_) ?_ hsel (by kernel_rfl) (by kernel_rfl) (fun _ _ _ h => h) ?_ ?_ ?_ (by assumption) ?_
            case refine_3 => (simp only [List.getElem?_cons_succ, List.getElem?_cons_zero]; rfl)
            case refine_4 => rfl
            case refine_5 => rfl
            case refine_6 => (intro w' hSw; (try dsimp only at hSw); go_simp; (try with_reducible rfl))
            simp only [Act.put, List.setIfInBounds_toArray, List.set_cons_zero, List.set_cons_succ]
            refine take_oneL (i := 14) (d := 102) (oi := ?_) (v := ?_) ?_ hsel (by kernel_rfl) (by kernel_rfl) (fun _ _ _ h => h) ?_ ?_ ?_ (by assumption) ?_
            case refine_3 => (simp only [List.getElem?_cons_succ, List.getElem?_cons_zero]; rfl)
            case refine_4 => rfl
            case refine_5 => rfl
            case refine_6 => (intro w' hSw; (try dsimp only at hSw); go_simp; (try with_reducible rfl))
            simp only [Act.put, List.setIfInBounds_toArray, List.set_cons_zero, List.set_cons_succ]
            refine take_oneL (i := 15) (d := 103) (oi := ?_) (v := ?_) ?_ hsel (by kernel_rfl) (by kernel_rfl) (fun _ _ _ h => h) ?_ ?_ ?_ (by assumption) ?_
            case refine_3 => (simp only [List.getElem?_cons_succ, List.getElem?_cons_zero]; rfl)
            case refine_4 => rfl
            case refine_5 => rfl
            case refine_6 => (intro w' hSw; (try dsimp only at hSw); go_simp; (try with_reducible rfl))
            simp only [Act.put, List.setIfInBounds_toArray, List.set_cons_zero, List.set_cons_succ]
            refine take_oneL (i := 16) (d := 104) (oi := ?_) (v := ?_) ?_ hsel (by kernel_rfl) (by kernel_rfl) (fun _ _ _ h => h) ?_ ?_ ?_ (by assumption) ?_
            case refine_3 => (simp only [List.getElem?_cons_succ, List.getElem?_cons_zero]; rfl)
            case refine_4 => rfl
            case refine_5 => rfl
            case refine_6 => (intro w' hSw; (try dsimp only at hSw); go_simp; (try with_reducible rfl))
            simp only [Act.put, List.setIfInBounds_toArray, List.set_cons_zero, List.set_cons_succ]
            refine take_oneL (i := 17) (d := 105) (oi := ?_) (v := ?_) ?_ hsel (by kernel_rfl) (by kernel_rfl) (fun _ _ _ h => h) ?_ ?_ ?_ (by assumption) ?_
            case refine_3 => (simp only [List.getElem?_cons_succ, List.getElem?_cons_zero]; rfl)
            case refine_4 => rfl
            case refine_5 => rfl
            case refine_6 => (intro w' hSw; (try dsimp only at hSw); go_simp; (try with_reducible rfl))
            simp only [Act.put, List.setIfInBounds_toArray, List.set_cons_zero, List.set_cons_succ]
            refine wpAnyL_ready (rs := [12]) (by kernel_rfl) (by kernel_rfl) (by simp) ?_
            refine AllReadyL.cons (o := ?_) ?_ (fun K hK => ?_) AllReadyL.nil
            case refine_2 => (simp only [List.getElem?_cons_succ, List.getElem?_cons_zero]; rfl)
            go_simp
            (go_at_call 13; (with_reducible refine (NOld_c _ _ _ _ _ _ _ _ y.2 (HNY.out.later HOZ.out) HSY.out).mono ?_); rintro ee w8 ⟨OA, on, oc, OB, om, od, rfl, hno, ho⟩; (obtain rfl := hno.2.1.len); (obtain rfl := hno.2.2.len); have HNO := Lib.hid hno; clear hno; (replace HOZ := Lib.hid (on_new HOZ.out ho)); clear ho)
            go_wp2_with (fail)
            clear hHeld
            refine hK.out _ _ (KP.out _ HOZ.out) (fun hHeld => ?_)
            clear hK K
            try simp only [Act.put, List.setIfInBounds_toArray, List.set_cons_zero, List.set_cons_succ]
            refine wpAnyL_ready (rs := [18]) (by kernel_rfl) (by kernel_rfl) (by simp) ?_
            refine AllReadyL.cons (o := ?_) ?_ (fun K hK => ?_) AllReadyL.nil
            case refine_2 => (simp only [List.getElem?_cons_succ, List.getElem?_cons_zero]; rfl)
            go_simp
            (go_at_call 12; (with_reducible refine (DSame_eq _ _ _ _ _ _ _ _ _ _ _ _ y.2 HNO.out (HNV.out.later HOZ.out) HSN.out.1 HSN.out.2).mono ?_); rintro ee w9 ⟨rfl, ho⟩; (replace HOZ := Lib.hid (on_new HOZ.out ho)); clear ho)
            go_wp2_with (fail)
            clear hHeld
            refine hK.out _ _ (KP.out _ HOZ.out) (fun hHeld => ?_)
            clear hK K
            try simp only [Act.put, List.setIfInBounds_toArray, List.set_cons_zero, List.set_cons_succ]
            refine take_oneL (i := 19) (d := 107) (oi := ?_) (v := ?_) ?_ hsel (by kernel_rfl) (by kernel_rfl) (fun _ _ _ h => h) ?_ ?_ ?_ (by assumption) ?_
            case refine_3 => (simp only [List.getElem?_cons_succ, List.getElem?_cons_zero]; rfl)
            case refine_4 => rfl
            case refine_5 => rfl
            case refine_6 => (intro w' hSw; (try dsimp only at hSw); go_simp; (try with_reducible rfl))
            simp only [Act.put, List.setIfInBounds_toArray, List.set_cons_zero, List.set_cons_succ]
            refine take_oneL (i := 20) (d := 108) (oi := ?_) (v := ?_) ?_ hsel (by kernel_rfl) (by kernel_rfl) (fun _ _ _ h => h) ?_ ?_ ?_ (by assumption) ?_
            case refine_3 => (simp only [List.getElem?_cons_succ, List.getElem?_cons_zero]; rfl)
            case refine_4 => rfl
            case refine_5 => rfl
            case refine_6 => (intro w' hSw; (try dsimp only at hSw); go_simp; (try with_reducible rfl))
            simp only [Act.put, List.setIfInBounds_toArray, List.set_cons_zero, List.set_cons_succ]
            refine take_oneL (i := 21) (d := 109) (oi := ?_) (v := ?_) ?_ hsel (by kernel_rfl) (by kernel_rfl) (fun _ _ _ h => h) ?_ ?_ ?_ (by assumption) ?_
            case refine_3 => (simp only [List.getElem?_cons_succ, List.getElem?_cons_zero]; rfl)
            case refine_4 => rfl
            case refine_5 => rfl
            case refine_6 => (intro w' hSw; (try dsimp only at hSw); go_simp; (try with_reducible rfl))
            simp only [Act.put, List.setIfInBounds_toArray, List.set_cons_zero, List.set_cons_succ]
            refine take_oneL (i := 22) (d := 110) (oi := ?_) (v := ?_) ?_ hsel (by kernel_rfl) (by kernel_rfl) (fun _ _ _ h => h) ?_ ?_ ?_ (by assumption) ?_
            case refine_3 => (simp only [List.getElem?_cons_succ, List.getElem?_cons_zero]; rfl)
            case refine_4 => rfl
            case refine_5 => rfl
            case refine_6 => (intro w' hSw; (try dsimp only at hSw); go_simp; (try with_reducible rfl))
            simp only [Act.put, List.setIfInBounds_toArray, List.set_cons_zero, List.set_cons_succ]
            refine take_oneL (i := 23) (d := 111) (oi := ?_) (v := ?_) ?_ hsel (by kernel_rfl) (by kernel_rfl) (fun _ _ _ h => h) ?_ ?_ ?_ (by assumption) ?_
            case refine_3 => (simp only [List.getElem?_cons_succ, List.getElem?_cons_zero]; rfl)
            case refine_4 => rfl
            case refine_5 => rfl
            case refine_6 => (intro w' hSw; (try dsimp only at hSw); go_simp; (try with_reducible rfl))
            simp only [Act.put, List.setIfInBounds_toArray, List.set_cons_zero, List.set_cons_succ]
            refine take_oneL (i := 24) (d := 112) (oi := ?_) (v := ?_) ?_ hsel (by kernel_rfl) (by kernel_rfl) (fun _ _ _ h => h) ?_ ?_ ?_ (by assumption) ?_
            case refine_3 => (simp only [List.getElem?_cons_succ, List.getElem?_cons_zero]; rfl)
            case refine_4 => rfl
            case refine_5 => rfl
            case refine_6 => (intro w' hSw; (try dsimp only at hSw); go_simp; (try with_reducible rfl))
            simp only [Act.put, List.setIfInBounds_toArray, List.set_cons_zero, List.set_cons_succ]
            refine wpAnyL_ready (rs := [25]) (by kernel_rfl) (by kernel_rfl) (by simp) ?_
            refine AllReadyL.cons (o := ?_) ?_ (fun K hK => ?_) AllReadyL.nil
            case refine_2 => (simp only [List.getElem?_cons_succ, List.getElem?_cons_zero]; rfl)
            go_simp
            (go_at_call 14; (with_reducible refine (Fits_n _ _ _ _ _ _ _ _ g y.2.leaf false HBF.out (HNY.out.later HOZ.out) (HG.out.later (on_new HOP.out HOZ.out)) HSY.out).mono ?_); rintro ee w10 ⟨rfl, ho⟩; (replace HOZ := Lib.hid (on_new HOZ.out ho)); clear ho)
            go_wp2_with (fail)
            clear hHeld
            refine hK.out _ _ (KP.out _ HOZ.out) (fun hHeld => ?_)
            clear hK K
            try simp only [Act.put, List.setIfInBounds_toArray, List.set_cons_zero, List.set_cons_succ]
            refine take_oneL (i := 26) (d := 114) (oi := ?_) (v := ?_) ?_ hsel (by kernel_rfl) (by kernel_rfl) (fun _ _ _ h => h) ?_ ?_ ?_ (by assumption) ?_
            case refine_3 => (simp only [List.getElem?_cons_succ, List.getElem?_cons_zero]; rfl)
            case refine_4 => rfl
            case refine_5 => rfl
            case refine_6 => (intro w' hSw; (try dsimp only at hSw); go_simp; (try with_reducible rfl))
            simp only [Act.put, List.setIfInBounds_toArray, List.set_cons_zero, List.set_cons_succ]
            refine take_oneL (i := 27) (d := 115) (oi := ?_) (v := ?_) ?_ hsel (by kernel_rfl) (by kernel_rfl) (fun _ _ _ h => h) ?_ ?_ ?_ (by assumption) ?_
            case refine_3 => (simp only [List.getElem?_cons_succ, List.getElem?_cons_zero]; rfl)
            case refine_4 => rfl
            case refine_5 => rfl
            case refine_6 => (intro w' hSw; (try dsimp only at hSw); go_simp; (try with_reducible rfl))
            simp only [Act.put, List.setIfInBounds_toArray, List.set_cons_zero, List.set_cons_succ]
            refine take_oneL (i := 28) (d := 116) (oi := ?_) (v := ?_) ?_ hsel (by kernel_rfl) (by kernel_rfl) (fun _ _ _ h => h) ?_ ?_ ?_ (by assumption) ?_
            case refine_3 => (simp only [List.getElem?_cons_succ, List.getElem?_cons_zero]; rfl)
            case refine_4 => rfl
            case refine_5 => rfl
            case refine_6 => (intro w' hSw; (try dsimp only at hSw); go_simp; (try with_reducible rfl))
            simp only [Act.put, List.setIfInBounds_toArray, List.set_cons_zero, List.set_cons_succ]
            refine take_oneL (i := 29) (d := 117) (oi := ?_) (v := ?_) ?_ hsel (by kernel_rfl) (by kernel_rfl) (fun _ _ _ h => h) ?_ ?_ ?_ (by assumption) ?_
            case refine_3 => (simp only [List.getElem?_cons_succ, List.getElem?_cons_zero]; rfl)
            case refine_4 => rfl
            case refine_5 => rfl
            case refine_6 => (intro w' hSw; (try dsimp only at hSw); go_simp; (try with_reducible rfl))
            simp only [Act.put, List.setIfInBounds_toArray, List.set_cons_zero, List.set_cons_succ]
            refine take_oneL (i := 30) (d := 118) (oi := ?_) (v := ?_) ?_ hsel (by kernel_rfl) (by kernel_rfl) (fun _ _ _ h => h) ?_ ?_ ?_ (by assumption) ?_
            case refine_3 => (simp only [List.getElem?_cons_succ, List.getElem?_cons_zero]; rfl)
            case refine_4 => rfl
            case refine_5 => rfl
            case refine_6 => (intro w' hSw; (try dsimp only at hSw); go_simp; (try with_reducible rfl))
            simp only [Act.put, List.setIfInBounds_toArray, List.set_cons_zero, List.set_cons_succ]
            refine take_oneL (i := 31) (d := 119) (oi := ?_) (v := ?_) ?_ hsel (by kernel_rfl) (by kernel_rfl) (fun _ _ _ h => h) ?_ ?_ ?_ (by assumption) ?_
            case refine_3 => (simp only [List.getElem?_cons_succ, List.getElem?_cons_zero]; rfl)
            case refine_4 => rfl
            case refine_5 => rfl
            case refine_6 => (intro w' hSw; (try dsimp only at hSw); go_simp; (try with_reducible rfl))
            simp only [Act.put, List.setIfInBounds_toArray, List.set_cons_zero, List.set_cons_succ]
            refine take_oneL (i := 32) (d := 120) (oi := ?_) (v := ?_) ?_ hsel (by kernel_rfl) (by kernel_rfl) (fun _ _ _ h => h) ?_ ?_ ?_ (by assumption) ?_
            case refine_3 => (simp only [List.getElem?_cons_succ, List.getElem?_cons_zero]; rfl)
            case refine_4 => rfl
            case refine_5 => rfl
            case refine_6 => (intro w' hSw; (try dsimp only at hSw); go_simp; (try with_reducible rfl))
            simp only [Act.put, List.setIfInBounds_toArray, List.set_cons_zero, List.set_cons_succ]
            refine take_oneL (i := 33) (d := 121) (oi := ?_) (v := ?_) ?_ hsel (by kernel_rfl) (by kernel_rfl) (fun _ _ _ h => h) ?_ ?_ ?_ (by assumption) ?_
            case refine_3 => (simp only [List.getElem?_cons_succ, List.getElem?_cons_zero]; rfl)
            case refine_4 => rfl
            case refine_5 => rfl
            case refine_6 => (intro w' hSw; (try dsimp only at hSw); go_simp; (try with_reducible rfl))
            simp only [Act.put, List.setIfInBounds_toArray, List.set_cons_zero, List.set_cons_succ]
            refine take_oneL (i := 34) (d := 122) (oi := ?_) (v := ?_) ?_ hsel (by kernel_rfl) (by kernel_rfl) (fun _ _ _ h => h) ?_ ?_ ?_ (by assumption) ?_
            case refine_3 => (simp only [List.getElem?_cons_succ, List.getElem?_cons_zero]; rfl)
            case refine_4 => rfl
            case refine_5 => rfl
            case refine_6 => (intro w' hSw; (try dsimp only at hSw); go_simp; (try with_reducible rfl))
            simp only [Act.put, List.setIfInBounds_toArray, List.set_cons_zero, List.set_cons_succ]
            refine take_oneL (i := 35) (d := 123) (oi := ?_) (v := ?_) ?_ hsel (by kernel_rfl) (by kernel_rfl) (fun _ _ _ h => h) ?_ ?_ ?_ (by assumption) ?_
            case refine_3 => (simp only [List.getElem?_cons_succ, List.getElem?_cons_zero]; rfl)
            case refine_4 => rfl
            case refine_5 => rfl
            case refine_6 => (intro w' hSw; (try dsimp only at hSw); go_simp; (try with_reducible rfl))
            simp only [Act.put, List.setIfInBounds_toArray, List.set_cons_zero, List.set_cons_succ]
            refine take_oneL (i := 36) (d := 124) (oi := ?_) (v := ?_) ?_ hsel (by kernel_rfl) (by kernel_rfl) (fun _ _ _ h => h) ?_ ?_ ?_ (by assumption) ?_
            case refine_3 => (simp only [List.getElem?_cons_succ, List.getElem?_cons_zero]; rfl)
            case refine_4 => rfl
            case refine_5 => rfl
            case refine_6 => (intro w' hSw; (try dsimp only at hSw); go_simp; (try with_reducible rfl))
            simp only [Act.put, List.setIfInBounds_toArray, List.set_cons_zero, List.set_cons_succ]
            refine take_oneL (i := 37) (d := 125) (oi := ?_) (v := ?_) ?_ hsel (by kernel_rfl) (by kernel_rfl) (fun _ _ _ h => h) ?_ ?_ ?_ (by assumption) ?_
            case refine_3 => (simp only [List.getElem?_cons_succ, List.getElem?_cons_zero]; rfl)
            case refine_4 => rfl
            case refine_5 => rfl
            case refine_6 => (intro w' hSw; (try dsimp only at hSw); go_simp; (try with_reducible rfl))
            simp only [Act.put, List.setIfInBounds_toArray, List.set_cons_zero, List.set_cons_succ]
            refine take_oneL (i := 38) (d := 126) (oi := ?_) (v := ?_) ?_ hsel (by kernel_rfl) (by kernel_rfl) (fun _ _ _ h => h) ?_ ?_ ?_ (by assumption) ?_
            case refine_3 => (simp only [List.getElem?_cons_succ, List.getElem?_cons_zero]; rfl)
            case refine_4 => rfl
            case refine_5 => rfl
            case refine_6 => (intro w' hSw; (try dsimp only at hSw); go_simp; (try with_reducible rfl))
            simp only [Act.put, List.setIfInBounds_toArray, List.set_cons_zero, List.set_cons_succ]
            refine take_oneL (i := 39) (d := 127) (oi := ?_) (v := ?_) ?_ hsel (by kernel_rfl) (by kernel_rfl) (fun _ _ _ h => h) ?_ ?_ ?_ (by assumption) ?_
            case refine_3 => (simp only [List.getElem?_cons_succ, List.getElem?_cons_zero]; rfl)
            case refine_4 => rfl
            case refine_5 => rfl
            case refine_6 => (intro w' hSw; (try dsimp only at hSw); go_simp; (try with_reducible rfl))
            simp only [Act.put, List.setIfInBounds_toArray, List.set_cons_zero, List.set_cons_succ]
            refine wpAnyL_done (by kernel_rfl) (by kernel_rfl) ?_ _
            clear hsel hHeld
            obtain ⟨g0, g1, g2⟩ := (HAP.out.1.later HOZ.out).tri
            obtain ⟨e0, e1, e2, e3, _⟩ := KP.out _ HOZ.out
            by_cases hk0 : 0 < k
            · have hk0i : (0 : Int) < (k : Int) := by omega
              have HJ : Hid (∀ W, Only (wp.heap.size ≤ ·) wp W → Calls Tryd.prog 15 #[.agg #[.bool lf, .slice A' n' c', .slice B' m' d'], .agg #[.bool y.2.leaf, .slice Q3 y.2.its.length q3, .slice R3 y.2.kds.length r3], .slice P3 y.1.length p3] W (GaveN W (jn l (k + 1)))) := Lib.hid fun W hW => by
                rw [jn_succ hk0 HYK.out]
                have hj := jn_len (k := k) hl120 HALL.out
                have hn1 := HAP.out.2.1.nod.now.2.1.len
                have hn2 := HAP.out.2.1.nod.now.2.2.len
                have hs1 := HSY.out.1
                have hs2 := HSY.out.2.1
                exact Join_n W lf y.2.leaf _ _ _ _ _ _ _ _ _ _ _ _ _ (jn l k) y.2 y.1 ((HAP.out.2.1.later hW).nod.now) (HNY.out.later hW) (by omega) (by omega) (by omega) (by omega) (HSK.out.later hW) (by have := HKL.out; omega)
              go_upto_region 15 with (go_at_call 15; (with_reducible refine (HJ.out _ HOZ.out).mono ?_); rintro ee w20 ⟨JA, jo, jc, JB, jm, jd, rfl, hj, ho⟩; have HNJ := Lib.hid hj; clear hj g0 g1 g2; (replace HOZ := Lib.hid (on_new HOZ.out ho)); clear ho; (obtain ⟨g0, g1, g2⟩ := (HAP.out.1.later HOZ.out).tri); (obtain ⟨f0, f1, f2⟩ := (HAP.out.1.later HOZ.out).melt3))
              have HB8 := Lib.hid (HAP.out.1.later HOZ.out)
              have HO8 := Lib.hid (on_new HAP.out.2.2 HOZ.out)
              obtain ⟨W6, hW6⟩ : ∃ W6, W6 = (((w20.setCell ⟨W4.heap.size, 0, none⟩ (.bool (jn l (k + 1)).leaf)).setCell ⟨W4.heap.size, 1, none⟩ (.slice JA jo jc)).setCell ⟨W4.heap.size, 2, none⟩ (.slice JB jm jd)) := ⟨_, rfl⟩
              have hB6 : Blk W6 W4.heap.size 34 [.bool (jn l (k + 1)).leaf, .slice JA jo jc, .slice JB jm jd] := by rw [hW6]; exact ((HB8.out.set_ 0 _).set_ 1 _).set_ 2 _
              have hO6 : Only (· = W4.heap.size) w20 W6 := by rw [hW6]; exact (((Only.refl (· = W4.heap.size) _).setCell (p := ⟨W4.heap.size, 0, none⟩) rfl _).setCell (p := ⟨W4.heap.size, 1, none⟩) rfl _).setCell (p := ⟨W4.heap.size, 2, none⟩) rfl _
              have hS6 := (nod_free HB8.out HNJ.out).step (hO6.mono fun _ h => .inl h) fun k hk => .inl hk
              rw [← hW6]
              have HX6 : Hid (Blk W6 W4.heap.size 34 [.bool (jn l (k + 1)).leaf, .slice JA jo jc, .slice JB jm jd] ∧ SNod (· = W4.heap.size) W6 (jn l (k + 1)) (jn l (k + 1)).leaf (.slice JA jo jc) (.slice JB jm jd) ∧ Only (W4.heap.size ≤ ·) W4 W6) := Lib.hid ⟨hB6, hS6, HO8.out.trans (hO6.mono fun j hj => by omega)⟩
              clear hW6 hB6 hO6 hS6 g0 g1 g2 f0 f1 f2 e0 e1 e2 e3
              go_wp2
              go_roundw
              case rel => exact ⟨k + 1, _, _, _, _, _, _, _, by omega, by go_num, HX6⟩
              case measure => simp [intOf]; omega
            · have hk0i : ¬ (0 : Int) < (k : Int) := by omega
              obtain rfl : k = 0 := by omega
              have HX6 : Hid (Blk _ W4.heap.size 34 [.bool lf, .slice A' n' c', .slice B' m' d'] ∧ SNod (· = W4.heap.size) _ (jn l (0 + 1)) lf (.slice A' n' c') (.slice B' m' d') ∧ Only (W4.heap.size ≤ ·) W4 _) := Lib.hid ⟨HAP.out.1.later HOZ.out, by rw [(jn_zero HYK.out).2, ← (jn_zero HYK.out).1]; exact HAP.out.2.1.later HOZ.out, on_new HAP.out.2.2 HOZ.out⟩
              clear g0 g1 g2 e0 e1 e2 e3
              go_wp2
              go_roundw
              case rel => exact ⟨0 + 1, _, _, _, _, _, _, _, by omega, by go_num, HX6⟩
              case measure => simp [intOf]; omega
          · skip
            refine wp_region_list (B := [false, false, false, false, false, false, false, false, false, false, false, false, false, false, false, false, false, false, false, false, false, false, false, false, false, false, false, false, false, false, false, false, false, false, false, false, false, false, false, false]) (S := (fun W => W.cell? ⟨wr.heap.size, 0, none⟩ = some (.slice P3 y.1.length p3) ∧ W.cell? ⟨wr.heap.size, 1, none⟩ = some (.bool y.2.leaf) ∧ W.cell? ⟨wr.heap.size, 2, none⟩ = some (.slice Q3 y.2.its.length q3) ∧ W.cell? ⟨wr.heap.size, 3, none⟩ = some (.slice R3 y.2.kds.length r3) ∧ W.cell? ⟨vb, vo + k * 4, none⟩ = some (.slice V1 y.1.length v1) ∧ W.cell? ⟨vb, vo + k * 4 + 1, none⟩ = some (.bool y.2.leaf) ∧ W.cell? ⟨vb, vo + k * 4 + 2, none⟩ = some (.slice V2 y.2.its.length v2) ∧ W.cell? ⟨vb, vo + k * 4 + 3, none⟩ = some (.slice V3 y.2.kds.length v3))) (by kernel_rfl) (by kernel_rfl) (by kernel_rfl) (KP.out _ HOZ.out) (fun hsel hHeld => ?_)
            obtain ⟨wq, hwq⟩ : ∃ wq, wq = wp.drew := ⟨_, rfl⟩
            rw [← hwq] at HOZ hHeld
            rw [← hwq]
            clear hwq
            refine take_oneL (i := 0) (d := 88) (oi := ?_) (v := ?_) ?_ hsel (by kernel_rfl) (by kernel_rfl) (fun _ _ _ h => h) ?_ ?_ ?_ (by assumption) ?_
            case refine_3 => (simp only [List.getElem?_cons_zero]; rfl)
            case refine_4 => rfl
            case refine_5 => rfl
            case refine_6 => (intro w' hSw; (try dsimp only at hSw); go_simp; (try with_reducible rfl))
            simp only [Act.put, List.setIfInBounds_toArray, List.set_cons_zero, List.set_cons_succ]
            refine take_oneL (i := 1) (d := 89) (oi := ?_) (v := ?_) ?_ hsel (by kernel_rfl) (by kernel_rfl) (fun _ _ _ h => h) ?_ ?_ ?_ (by assumption) ?_
            case refine_3 => (simp only [List.getElem?_cons_succ, List.getElem?_cons_zero]; rfl)
            case refine_4 => rfl
            case refine_5 => rfl
            case refine_6 => (intro w' hSw; (try dsimp only at hSw); go_simp; (try with_reducible rfl))
            simp only [Act.put, List.setIfInBounds_toArray, List.set_cons_zero, List.set_cons_succ]
            refine take_oneL (i := 2) (d := 90) (oi := ?_) (v := ?_) ?_ hsel (by kernel_rfl) (by kernel_rfl) (fun _ _ _ h => h) ?_ ?_ ?_ (by assumption) ?_
            case refine_3 => (simp only [List.getElem?_cons_succ, List.getElem?_cons_zero]; rfl)
            case refine_4 => rfl
            case refine_5 => rfl
            case refine_6 => (intro w' hSw; (try dsimp only at hSw); go_simp; (try with_reducible rfl))
            simp only [Act.put, List.setIfInBounds_toArray, List.set_cons_zero, List.set_cons_succ]
            refine take_oneL (i := 3) (d := 91) (oi := ?_) (v := ?_) ?_ hsel (by kernel_rfl) (by kernel_rfl) (fun _ _ _ h => h) ?_ ?_ ?_ (by assumption) ?_
            case refine_3 => (simp only [List.getElem?_cons_succ, List.getElem?_cons_zero]; rfl)
            case refine_4 => rfl
            case refine_5 => rfl
            case refine_6 => (intro w' hSw; (try dsimp only at hSw); go_simp; (try with_reducible rfl))
            simp only [Act.put, List.setIfInBounds_toArray, List.set_cons_zero, List.set_cons_succ]
            refine take_oneL (i := 4) (d := 92) (oi := ?_) (v := ?_) ?_ hsel (by kernel_rfl) (by kernel_rfl) (fun _ _ _ h => h) ?_ ?_ ?_ (by assumption) ?_
            case refine_3 => (simp only [List.getElem?_cons_succ, List.getElem?_cons_zero]; rfl)
            case refine_4 => rfl
            case refine_5 => rfl
            case refine_6 => (intro w' hSw; (try dsimp only at hSw); go_simp; (try with_reducible rfl))
            simp only [Act.put, List.setIfInBounds_toArray, List.set_cons_zero, List.set_cons_succ]
            refine take_oneL (i := 5) (d := 93) (oi := ?_) (v := ?_) ?_ hsel (by kernel_rfl) (by kernel_rfl) (fun _ _ _ h => h) ?_ ?_ ?_ (by assumption) ?_
            case refine_3 => (simp only [List.getElem?_cons_succ, List.getElem?_cons_zero]; rfl)
            case refine_4 => rfl
            case refine_5 => rfl
            case refine_6 => (intro w' hSw; (try dsimp only at hSw); go_simp; (try with_reducible rfl))
            simp only [Act.put, List.setIfInBounds_toArray, List.set_cons_zero, List.set_cons_succ]
            refine take_oneL (i := 6) (d := 94) (oi := ?_) (v := ?_) ?_ hsel (by kernel_rfl) (by kernel_rfl) (fun _ _ _ h => h) ?_ ?_ ?_ (by assumption) ?_
            case refine_3 => (simp only [List.getElem?_cons_succ, List.getElem?_cons_zero]; rfl)
            case refine_4 => rfl
            case refine_5 => rfl
            case refine_6 => (intro w' hSw; (try dsimp only at hSw); go_simp; (try with_reducible rfl))
            simp only [Act.put, List.setIfInBounds_toArray, List.set_cons_zero, List.set_cons_succ]
            refine wpAnyL_ready (rs := [7]) (by kernel_rfl) (by kernel_rfl) (by simp) ?_
            refine AllReadyL.cons (o := ?_) ?_ (fun K hK => ?_) AllReadyL.nil
            case refine_2 => (simp only [List.getElem?_cons_succ, List.getElem?_cons_zero]; rfl)
            go_simp
            (go_at_call 11; (with_reducible refine (Equal_b _ _ _ y.1 y.1 true (HSK.out.later HOZ.out) (HSV.out.later HOZ.out) (by simp)).mono ?_); rintro ee w7 ⟨rfl, rfl⟩)
            go_wp2_with (fail)
            clear hHeld
            refine hK.out _ _ (KP.out _ HOZ.out) (fun hHeld => ?_)
            clear hK K
            try simp only [Act.put, List.setIfInBounds_toArray, List.set_cons_zero, List.set_cons_succ]
            refine take_oneL (i := 8) (d := 96) (oi := ?_) (v := ?_) ?_ hsel (by kernel_rfl) (by kernel_rfl) (fun _ _ _ h => h) ?_ ?_ ?_ (by assumption) ?_
            case refine_3 => (simp only [List.getElem?_cons_succ, List.getElem?_cons_zero]; rfl)
            case refine_4 => rfl
            case refine_5 => rfl
            case refine_6 => (intro w' hSw; (try dsimp only at hSw); go_simp; (try with_reducible rfl))
            simp only [Act.put, List.setIfInBounds_toArray, List.set_cons_zero, List.set_cons_succ]
            refine take_oneL (i := 9) (d := 97) (oi := ?_) (v := ?_) ?_ hsel (by kernel_rfl) (by kernel_rfl) (fun _ _ _ h => h) ?_ ?_ ?_ (by assumption) ?_
            case refine_3 => (simp only [List.getElem?_cons_succ, List.getElem?_cons_zero]; rfl)
            case refine_4 => rfl
            case refine_5 => rfl
            case refine_6 => (intro w' hSw; (try dsimp only at hSw); go_simp; (try with_reducible rfl))
            simp only [Act.put, List.setIfInBounds_toArray, List.set_cons_zero, List.set_cons_succ]
            refine take_oneL (i := 10) (d := 98) (oi := ?_) (v := ?_) ?_ hsel (by kernel_rfl) (by kernel_rfl) (fun _ _ _ h => h) ?_ ?_ ?_ (by assumption) ?_
            case refine_3 => (simp only [List.getElem?_cons_succ, List.getElem?_cons_zero]; rfl)
            case refine_4 => rfl
            case refine_5 => rfl
            case refine_6 => (intro w' hSw; (try dsimp only at hSw); go_simp; (try with_reducible rfl))
            simp only [Act.put, List.setIfInBounds_toArray, List.set_cons_zero, List.set_cons_succ]
            refine take_oneL (i := 11) (d := 99) (oi := ?_) (v := ?_) ?_ hsel (by kernel_rfl) (by kernel_rfl) (fun _ _ _ h => h) ?_ ?_ ?_ (by assumption) ?_
            case refine_3 => (simp only [List.getElem?_cons_succ, List.getElem?_cons_zero]; rfl)
            case refine_4 => rfl
            case refine_5 => rfl
            case refine_6 => (intro w' hSw; (try dsimp only at hSw); go_simp; (try with_reducible rfl))
            simp only [Act.put, List.setIfInBounds_toArray, List.set_cons_zero, List.set_cons_succ]
            refine take_oneL (i := 13) (d := 101) (oi := ?_) (v := ?_) ?_ hsel (by kernel_rfl) (by kernel_rfl) (fun _ _ _ h => h) ?_ ?_ ?_ (by assumption) ?_
            case refine_3 => (simp only [List.getElem?_cons_succ, List.getElem?_cons_zero]; rfl)
            case refine_4 => rfl
            case refine_5 => rfl
            case refine_6 => (intro w' hSw; (try dsimp only at hSw); go_simp; (try with_reducible rfl))
            simp only [Act.put, List.setIfInBounds_toArray, List.set_cons_zero, List.set_cons_succ]
            refine take_oneL (i := 14) (d := 102) (oi := ?_) (v := ?_) ?_ hsel (by kernel_rfl) (by kernel_rfl) (fun _ _ _ h => h) ?_ ?_ ?_ (by assumption) ?_
            case refine_3 => (simp only [List.getElem?_cons_succ, List.getElem?_cons_zero]; rfl)
            case refine_4 => rfl
            case refine_5 => rfl
            case refine_6 => (intro w' hSw; (try dsimp only at hSw); go_simp; (try with_reducible rfl))
            simp only [Act.put, List.setIfInBounds_toArray, List.set_cons_zero, List.set_cons_succ]
            refine take_oneL (i := 15) (d := 103) (oi := ?_) (v := ?_) ?_ hsel (by kernel_rfl) (by kernel_rfl) (fun _ _ _ h => h) ?_ ?_ ?_ (by assumption) ?_
            case refine_3 => (simp only [List.getElem?_cons_succ, List.getElem?_cons_zero]; rfl)
            case refine_4 => rfl
            case refine_5 => rfl
            case refine_6 => (intro w' hSw; (try dsimp only at hSw); go_simp; (try with_reducible rfl))
            simp only [Act.put, List.setIfInBounds_toArray, List.set_cons_zero, List.set_cons_succ]
            refine take_oneL (i := 16) (d := 104) (oi := ?_) (v := ?_) ?_ hsel (by kernel_rfl) (by kernel_rfl) (fun _ _ _ h => h) ?_ ?_ ?_ (by assumption) ?_
            case refine_3 => (simp only [List.getElem?_cons_succ, List.getElem?_cons_zero]; rfl)
            case refine_4 => rfl
            case refine_5 => rfl
            case refine_6 => (intro w' hSw; (try dsimp only at hSw); go_simp; (try with_reducible rfl))
            simp only [Act.put, List.setIfInBounds_toArray, List.set_cons_zero, List.set_cons_succ]
            refine take_oneL (i := 17) (d := 105) (oi := ?_) (v := ?_) ?_ hsel (by kernel_rfl) (by kernel_rfl) (fun _ _ _ h => h) ?_ ?_ ?_ (by assumption) ?_
            case refine_3 => (simp only [List.getElem?_cons_succ, List.getElem?_cons_zero]; rfl)
            case refine_4 => rfl
            case refine_5 => rfl
            case refine_6 => (intro w' hSw; (try dsimp only at hSw); go_simp; (try with_reducible rfl))
            simp only [Act.put, List.setIfInBounds_toArray, List.set_cons_zero, List.set_cons_succ]
            refine wpAnyL_ready (rs := [12]) (by kernel_rfl) (by kernel_rfl) (by simp) ?_
            refine AllReadyL.cons (o := ?_) ?_ (fun K hK => ?_) AllReadyL.nil
            case refine_2 => (simp only [List.getElem?_cons_succ, List.getElem?_cons_zero]; rfl)
            go_simp
            (go_at_call 13; (with_reducible refine (NOld_c _ _ _ _ _ _ _ _ y.2 (HNY.out.later HOZ.out) HSY.out).mono ?_); rintro ee w8 ⟨OA, on, oc, OB, om, od, rfl, hno, ho⟩; (obtain rfl := hno.2.1.len); (obtain rfl := hno.2.2.len); have HNO := Lib.hid hno; clear hno; (replace HOZ := Lib.hid (on_new HOZ.out ho)); clear ho)
            go_wp2_with (fail)
            clear hHeld
            refine hK.out _ _ (KP.out _ HOZ.out) (fun hHeld => ?_)
            clear hK K
            try simp only [Act.put, List.setIfInBounds_toArray, List.set_cons_zero, List.set_cons_succ]
            refine wpAnyL_ready (rs := [18]) (by kernel_rfl) (by kernel_rfl) (by simp) ?_
            refine AllReadyL.cons (o := ?_) ?_ (fun K hK => ?_) AllReadyL.nil
            case refine_2 => (simp only [List.getElem?_cons_succ, List.getElem?_cons_zero]; rfl)
            go_simp
            (go_at_call 12; (with_reducible refine (DSame_eq _ _ _ _ _ _ _ _ _ _ _ _ y.2 HNO.out (HNV.out.later HOZ.out) HSN.out.1 HSN.out.2).mono ?_); rintro ee w9 ⟨rfl, ho⟩; (replace HOZ := Lib.hid (on_new HOZ.out ho)); clear ho)
            go_wp2_with (fail)
            clear hHeld
            refine hK.out _ _ (KP.out _ HOZ.out) (fun hHeld => ?_)
            clear hK K
            try simp only [Act.put, List.setIfInBounds_toArray, List.set_cons_zero, List.set_cons_succ]
            refine take_oneL (i := 19) (d := 107) (oi := ?_) (v := ?_) ?_ hsel (by kernel_rfl) (by kernel_rfl) (fun _ _ _ h => h) ?_ ?_ ?_ (by assumption) ?_
            case refine_3 => (simp only [List.getElem?_cons_succ, List.getElem?_cons_zero]; rfl)
            case refine_4 => rfl
            case refine_5 => rfl
            case refine_6 => (intro w' hSw; (try dsimp only at hSw); go_simp; (try with_reducible rfl))
            simp only [Act.put, List.setIfInBounds_toArray, List.set_cons_zero, List.set_cons_succ]
            refine take_oneL (i := 20) (d := 108) (oi := ?_) (v := ?_) ?_ hsel (by kernel_rfl) (by kernel_rfl) (fun _ _ _ h => h) ?_ ?_ ?_ (by assumption) ?_
            case refine_3 => (simp only [List.getElem?_cons_succ, List.getElem?_cons_zero]; rfl)
            case refine_4 => rfl
            case refine_5 => rfl
            case refine_6 => (intro w' hSw; (try dsimp only at hSw); go_simp; (try with_reducible rfl))
            simp only [Act.put, List.setIfInBounds_toArray, List.set_cons_zero, List.set_cons_succ]
            refine take_oneL (i := 21) (d := 109) (oi := ?_) (v := ?_) ?_ hsel (by kernel_rfl) (by kernel_rfl) (fun _ _ _ h => h) ?_ ?_ ?_ (by assumption) ?_
            case refine_3 => (simp only [List.getElem?_cons_succ, List.getElem?_cons_zero]; rfl)
            case refine_4 => rfl
            case refine_5 => rfl
            case refine_6 => (intro w' hSw; (try dsimp only at hSw); go_simp; (try with_reducible rfl))
            simp only [Act.put, List.setIfInBounds_toArray, List.set_cons_zero, List.set_cons_succ]
            refine take_oneL (i := 22) (d := 110) (oi := ?_) (v := ?_) ?_ hsel (by kernel_rfl) (by kernel_rfl) (fun _ _ _ h => h) ?_ ?_ ?_ (by assumption) ?_
            case refine_3 => (simp only [List.getElem?_cons_succ, List.getElem?_cons_zero]; rfl)
            case refine_4 => rfl
            case refine_5 => rfl
            case refine_6 => (intro w' hSw; (try dsimp only at hSw); go_simp; (try with_reducible rfl))
            simp only [Act.put, List.setIfInBounds_toArray, List.set_cons_zero, List.set_cons_succ]
            refine take_oneL (i := 23) (d := 111) (oi := ?_) (v := ?_) ?_ hsel (by kernel_rfl) (by kernel_rfl) (fun _ _ _ h => h) ?_ ?_ ?_ (by assumption) ?_
            case refine_3 => (simp only [List.getElem?_cons_succ, List.getElem?_cons_zero]; rfl)
            case refine_4 => rfl
            case refine_5 => rfl
            case refine_6 => (intro w' hSw; (try dsimp only at hSw); go_simp; (try with_reducible rfl))
            simp only [Act.put, List.setIfInBounds_toArray, List.set_cons_zero, List.set_cons_succ]
            refine take_oneL (i := 24) (d := 112) (oi := ?_) (v := ?_) ?_ hsel (by kernel_rfl) (by kernel_rfl) (fun _ _ _ h => h) ?_ ?_ ?_ (by assumption) ?_
            case refine_3 => (simp only [List.getElem?_cons_succ, List.getElem?_cons_zero]; rfl)
            case refine_4 => rfl
            case refine_5 => rfl
            case refine_6 => (intro w' hSw; (try dsimp only at hSw); go_simp; (try with_reducible rfl))
            simp only [Act.put, List.setIfInBounds_toArray, List.set_cons_zero, List.set_cons_succ]
            refine wpAnyL_ready (rs := [25]) (by kernel_rfl) (by kernel_rfl) (by simp) ?_
            refine AllReadyL.cons (o := ?_) ?_ (fun K hK => ?_) AllReadyL.nil
            case refine_2 => (simp only [List.getElem?_cons_succ, List.getElem?_cons_zero]; rfl)
            go_simp
            (go_at_call 14; (with_reducible refine (Fits_n _ _ _ _ _ _ _ _ g y.2.leaf true HBF.out (HNY.out.later HOZ.out) (HG.out.later (on_new HOP.out HOZ.out)) HSY.out).mono ?_); rintro ee w10 ⟨rfl, ho⟩; (replace HOZ := Lib.hid (on_new HOZ.out ho)); clear ho)
            go_wp2_with (fail)
            clear hHeld
            refine hK.out _ _ (KP.out _ HOZ.out) (fun hHeld => ?_)
            clear hK K
            try simp only [Act.put, List.setIfInBounds_toArray, List.set_cons_zero, List.set_cons_succ]
            refine take_oneL (i := 26) (d := 114) (oi := ?_) (v := ?_) ?_ hsel (by kernel_rfl) (by kernel_rfl) (fun _ _ _ h => h) ?_ ?_ ?_ (by assumption) ?_
            case refine_3 => (simp only [List.getElem?_cons_succ, List.getElem?_cons_zero]; rfl)
            case refine_4 => rfl
            case refine_5 => rfl
            case refine_6 => (intro w' hSw; (try dsimp only at hSw); go_simp; (try with_reducible rfl))
            simp only [Act.put, List.setIfInBounds_toArray, List.set_cons_zero, List.set_cons_succ]
            refine take_oneL (i := 27) (d := 115) (oi := ?_) (v := ?_) ?_ hsel (by kernel_rfl) (by kernel_rfl) (fun _ _ _ h => h) ?_ ?_ ?_ (by assumption) ?_
            case refine_3 => (simp only [List.getElem?_cons_succ, List.getElem?_cons_zero]; rfl)
            case refine_4 => rfl
            case refine_5 => rfl
            case refine_6 => (intro w' hSw; (try dsimp only at hSw); go_simp; (try with_reducible rfl))
            simp only [Act.put, List.setIfInBounds_toArray, List.set_cons_zero, List.set_cons_succ]
            refine take_skipL (i := 28) (d := 116) (oi := ?_) ?_ hsel (by kernel_rfl) (by kernel_rfl) (fun _ _ _ h => h) ?_ ?_ (by assumption) ?_
            case refine_2 => (simp only [List.getElem?_cons_succ, List.getElem?_cons_zero]; rfl)
            case refine_3 => rfl
            case refine_4 => rfl
            simp only [Act.put, List.setIfInBounds_toArray, List.set_cons_zero, List.set_cons_succ]
            refine take_skipL (i := 29) (d := 117) (oi := ?_) ?_ hsel (by kernel_rfl) (by kernel_rfl) (fun _ _ _ h => h) ?_ ?_ (by assumption) ?_
            case refine_2 => (simp only [List.getElem?_cons_succ, List.getElem?_cons_zero]; rfl)
            case refine_3 => rfl
            case refine_4 => rfl
            simp only [Act.put, List.setIfInBounds_toArray, List.set_cons_zero, List.set_cons_succ]
            refine take_skipL (i := 30) (d := 118) (oi := ?_) ?_ hsel (by kernel_rfl) (by kernel_rfl) (fun _ _ _ h => h) ?_ ?_ (by assumption) ?_
            case refine_2 => (simp only [List.getElem?_cons_succ, List.getElem?_cons_zero]; rfl)
            case refine_3 => rfl
            case refine_4 => rfl
            simp only [Act.put, List.setIfInBounds_toArray, List.set_cons_zero, List.set_cons_succ]
            refine take_skipL (i := 31) (d := 119) (oi := ?_) ?_ hsel (by kernel_rfl) (by kernel_rfl) (fun _ _ _ h => h) ?_ ?_ (by assumption) ?_
            case refine_2 => (simp only [List.getElem?_cons_succ, List.getElem?_cons_zero]; rfl)
            case refine_3 => rfl
            case refine_4 => rfl
            simp only [Act.put, List.setIfInBounds_toArray, List.set_cons_zero, List.set_cons_succ]
            refine take_skipL (i := 32) (d := 120) (oi := ?_) ?_ hsel (by kernel_rfl) (by kernel_rfl) (fun _ _ _ h => h) ?_ ?_ (by assumption) ?_
            case refine_2 => (simp only [List.getElem?_cons_succ, List.getElem?_cons_zero]; rfl)
            case refine_3 => rfl
            case refine_4 => rfl
            simp only [Act.put, List.setIfInBounds_toArray, List.set_cons_zero, List.set_cons_succ]
            refine take_skipL (i := 33) (d := 121) (oi := ?_) ?_ hsel (by kernel_rfl) (by kernel_rfl) (fun _ _ _ h => h) ?_ ?_ (by assumption) ?_
            case refine_2 => (simp only [List.getElem?_cons_succ, List.getElem?_cons_zero]; rfl)
            case refine_3 => rfl
            case refine_4 => rfl
            simp only [Act.put, List.setIfInBounds_toArray, List.set_cons_zero, List.set_cons_succ]
            refine take_skipL (i := 34) (d := 122) (oi := ?_) ?_ hsel (by kernel_rfl) (by kernel_rfl) (fun _ _ _ h => h) ?_ ?_ (by assumption) ?_
            case refine_2 => (simp only [List.getElem?_cons_succ, List.getElem?_cons_zero]; rfl)
            case refine_3 => rfl
            case refine_4 => rfl
            simp only [Act.put, List.setIfInBounds_toArray, List.set_cons_zero, List.set_cons_succ]
            refine take_skipL (i := 35) (d := 123) (oi := ?_) ?_ hsel (by kernel_rfl) (by kernel_rfl) (fun _ _ _ h => h) ?_ ?_ (by assumption) ?_
            case refine_2 => (simp only [List.getElem?_cons_succ, List.getElem?_cons_zero]; rfl)
            case refine_3 => rfl
            case refine_4 => rfl
            simp only [Act.put, List.setIfInBounds_toArray, List.set_cons_zero, List.set_cons_succ]
            refine take_skipL (i := 36) (d := 124) (oi := ?_) ?_ hsel (by kernel_rfl) (by kernel_rfl) (fun _ _ _ h => h) ?_ ?_ (by assumption) ?_
            case refine_2 => (simp only [List.getElem?_cons_succ, List.getElem?_cons_zero]; rfl)
            case refine_3 => rfl
            case refine_4 => rfl
            simp only [Act.put, List.setIfInBounds_toArray, List.set_cons_zero, List.set_cons_succ]
            refine take_skipL (i := 37) (d := 125) (oi := ?_) ?_ hsel (by kernel_rfl) (by kernel_rfl) (fun _ _ _ h => h) ?_ ?_ (by assumption) ?_
            case refine_2 => (simp only [List.getElem?_cons_succ, List.getElem?_cons_zero]; rfl)
            case refine_3 => rfl
            case refine_4 => rfl
            simp only [Act.put, List.setIfInBounds_toArray, List.set_cons_zero, List.set_cons_succ]
            refine take_oneL (i := 38) (d := 126) (oi := ?_) (v := ?_) ?_ hsel (by kernel_rfl) (by kernel_rfl) (fun _ _ _ h => h) ?_ ?_ ?_ (by assumption) ?_
            case refine_3 => (simp only [List.getElem?_cons_succ, List.getElem?_cons_zero]; rfl)
            case refine_4 => rfl
            case refine_5 => rfl
            case refine_6 => (intro w' hSw; (try dsimp only at hSw); go_simp; (try with_reducible rfl))
            simp only [Act.put, List.setIfInBounds_toArray, List.set_cons_zero, List.set_cons_succ]
            refine take_oneL (i := 39) (d := 127) (oi := ?_) (v := ?_) ?_ hsel (by kernel_rfl) (by kernel_rfl) (fun _ _ _ h => h) ?_ ?_ ?_ (by assumption) ?_
            case refine_3 => (simp only [List.getElem?_cons_succ, List.getElem?_cons_zero]; rfl)
            case refine_4 => rfl
            case refine_5 => rfl
            case refine_6 => (intro w' hSw; (try dsimp only at hSw); go_simp; (try with_reducible rfl))
            simp only [Act.put, List.setIfInBounds_toArray, List.set_cons_zero, List.set_cons_succ]
            refine wpAnyL_done (by kernel_rfl) (by kernel_rfl) ?_ _
            clear hsel hHeld
            obtain ⟨g0, g1, g2⟩ := (HAP.out.1.later HOZ.out).tri
            obtain ⟨e0, e1, e2, e3, _⟩ := KP.out _ HOZ.out
            by_cases hk0 : 0 < k
            · have hk0i : (0 : Int) < (k : Int) := by omega
              have HJ : Hid (∀ W, Only (wp.heap.size ≤ ·) wp W → Calls Tryd.prog 15 #[.agg #[.bool lf, .slice A' n' c', .slice B' m' d'], .agg #[.bool y.2.leaf, .slice Q3 y.2.its.length q3, .slice R3 y.2.kds.length r3], .slice P3 y.1.length p3] W (GaveN W (jn l (k + 1)))) := Lib.hid fun W hW => by
                rw [jn_succ hk0 HYK.out]
                have hj := jn_len (k := k) hl120 HALL.out
                have hn1 := HAP.out.2.1.nod.now.2.1.len
                have hn2 := HAP.out.2.1.nod.now.2.2.len
                have hs1 := HSY.out.1
                have hs2 := HSY.out.2.1
                exact Join_n W lf y.2.leaf _ _ _ _ _ _ _ _ _ _ _ _ _ (jn l k) y.2 y.1 ((HAP.out.2.1.later hW).nod.now) (HNY.out.later hW) (by omega) (by omega) (by omega) (by omega) (HSK.out.later hW) (by have := HKL.out; omega)
              go_upto_region 15 with (go_at_call 15; (with_reducible refine (HJ.out _ HOZ.out).mono ?_); rintro ee w20 ⟨JA, jo, jc, JB, jm, jd, rfl, hj, ho⟩; have HNJ := Lib.hid hj; clear hj g0 g1 g2; (replace HOZ := Lib.hid (on_new HOZ.out ho)); clear ho; (obtain ⟨g0, g1, g2⟩ := (HAP.out.1.later HOZ.out).tri); (obtain ⟨f0, f1, f2⟩ := (HAP.out.1.later HOZ.out).melt3))
              have HB8 := Lib.hid (HAP.out.1.later HOZ.out)
              have HO8 := Lib.hid (on_new HAP.out.2.2 HOZ.out)
              obtain ⟨W6, hW6⟩ : ∃ W6, W6 = (((w20.setCell ⟨W4.heap.size, 0, none⟩ (.bool (jn l (k + 1)).leaf)).setCell ⟨W4.heap.size, 1, none⟩ (.slice JA jo jc)).setCell ⟨W4.heap.size, 2, none⟩ (.slice JB jm jd)) := ⟨_, rfl⟩
              have hB6 : Blk W6 W4.heap.size 34 [.bool (jn l (k + 1)).leaf, .slice JA jo jc, .slice JB jm jd] := by rw [hW6]; exact ((HB8.out.set_ 0 _).set_ 1 _).set_ 2 _
              have hO6 : Only (· = W4.heap.size) w20 W6 := by rw [hW6]; exact (((Only.refl (· = W4.heap.size) _).setCell (p := ⟨W4.heap.size, 0, none⟩) rfl _).setCell (p := ⟨W4.heap.size, 1, none⟩) rfl _).setCell (p := ⟨W4.heap.size, 2, none⟩) rfl _
              have hS6 := (nod_free HB8.out HNJ.out).step (hO6.mono fun _ h => .inl h) fun k hk => .inl hk
              rw [← hW6]
              have HX6 : Hid (Blk W6 W4.heap.size 34 [.bool (jn l (k + 1)).leaf, .slice JA jo jc, .slice JB jm jd] ∧ SNod (· = W4.heap.size) W6 (jn l (k + 1)) (jn l (k + 1)).leaf (.slice JA jo jc) (.slice JB jm jd) ∧ Only (W4.heap.size ≤ ·) W4 W6) := Lib.hid ⟨hB6, hS6, HO8.out.trans (hO6.mono fun j hj => by omega)⟩
              clear hW6 hB6 hO6 hS6 g0 g1 g2 f0 f1 f2 e0 e1 e2 e3
              go_wp2
              go_roundw
              case rel => exact ⟨k + 1, _, _, _, _, _, _, _, by omega, by go_num, HX6⟩
              case measure => simp [intOf]; omega
            · have hk0i : ¬ (0 : Int) < (k : Int) := by omega
              obtain rfl : k = 0 := by omega
              have HX6 : Hid (Blk _ W4.heap.size 34 [.bool lf, .slice A' n' c', .slice B' m' d'] ∧ SNod (· = W4.heap.size) _ (jn l (0 + 1)) lf (.slice A' n' c') (.slice B' m' d') ∧ Only (W4.heap.size ≤ ·) W4 _) := Lib.hid ⟨HAP.out.1.later HOZ.out, by rw [(jn_zero HYK.out).2, ← (jn_zero HYK.out).1]; exact HAP.out.2.1.later HOZ.out, on_new HAP.out.2.2 HOZ.out⟩
              clear g0 g1 g2 e0 e1 e2 e3
              go_wp2
              go_roundw
              case rel => exact ⟨0 + 1, _, _, _, _, _, _, _, by omega, by go_num, HX6⟩
              case measure => simp [intOf]; omega
        · obtain rfl : k = l.length := by omega
          have HJX := Lib.hid (jn_all HCU.out HPU.out)
          have hlx : lf = x.leaf := by have h := HA.out.2.1.1; rwa [HJX.out] at h
          obtain rfl : lf = false := hlx.trans HLF.out.symm
          have HNA : Hid (Nod wr x false (.slice A' n' c') (.slice B' m' d')) := Lib.hid (by have h := HA.out.2.1.nod.now; rwa [HJX.out] at h)
          replace HNX := Lib.hid (HNX.out.later HA.out.2.2)
          obtain rfl : n' = x.its.length := HNA.out.2.1.len
          obtain rfl : m' = x.kds.length := HNA.out.2.2.len
          obtain rfl : qn = x.its.length := HNX.out.2.1.len
          obtain rfl : qm = x.kds.length := HNX.out.2.2.len
          have HXR := Lib.hid (HX.out.later HA.out.2.2)
          have HBR := Lib.hid (HB.out.later HA.out.2.2)
          have HNR := Lib.hid (HN.out.later (on_new HO.out HA.out.2.2))
          have HOL : Hid (∀ W, Only (wr.heap.size ≤ ·) wr W → Calls Tryd.prog 13 #[.agg #[.bool false, .slice QA x.its.length qc, .slice QB x.kds.length qd]] W (GaveF W false x)) := Lib.hid fun W hW => old_f W false QA QB x.its.length qc x.kds.length qd x HLF.out (HNX.out.later hW) HSM.out
          have HDS : Hid (∀ W OA oc OB od, Only (wr.heap.size ≤ ·) wr W → Nod W x false (.slice OA x.its.length oc) (.slice OB x.kds.length od) → Calls Tryd.prog 12 #[.agg #[.bool false, .slice OA x.its.length oc, .slice OB x.kds.length od], .agg #[.bool false, .slice A 0 c, .slice B 0 d]] W (Told W (.bool true))) := Lib.hid fun W OA oc OB od hW hno => by
            have h := HNR.out.later hW
            have e1 := h.2.1.len
            have e2 := h.2.2.len
            rw [← e1, ← e2] at hno ⊢
            exact DSame_eq W false _ _ _ _ _ _ _ _ _ _ x hno h (by have := HSM.out.1; omega) (by have := HSM.out.2.1; omega)
          have KZ : Hid (∀ W, Only (wr.heap.size ≤ ·) wr W → W.cell? ⟨W4.heap.size, 0, none⟩ = some (.bool false) ∧ W.cell? ⟨W4.heap.size, 1, none⟩ = some (.slice A' x.its.length c') ∧ W.cell? ⟨W4.heap.size, 2, none⟩ = some (.slice B' x.kds.length d') ∧ W.cell? ⟨W2.heap.size, 0, none⟩ = some (.bool false) ∧ W.cell? ⟨W2.heap.size, 1, none⟩ = some (.slice QA x.its.length qc) ∧ W.cell? ⟨W2.heap.size, 2, none⟩ = some (.slice QB x.kds.length qd) ∧ W.cell? ⟨w.heap.size, 0, none⟩ = some (.bool false) ∧ W.cell? ⟨w.heap.size, 1, none⟩ = some (.slice A 0 c) ∧ W.cell? ⟨w.heap.size, 2, none⟩ = some (.slice B 0 d)) := Lib.hid fun W hW => ⟨(HA.out.1.later hW).tri.1, (HA.out.1.later hW).tri.2.1, (HA.out.1.later hW).tri.2.2, (HXR.out.later hW).tri.1, (HXR.out.later hW).tri.2.1, (HXR.out.later hW).tri.2.2, (HBR.out.later hW).tri⟩
          have HOZ : Hid (Only (wr.heap.size ≤ ·) wr wr.drew) := Lib.hid (Only.refl _ wr).drew
          clear hlx
          go_wp2_with (fail)
          refine wp_region_list (B := [false, false, false, false, false, false, false, false, false, false, false, false, false]) (S := (fun W => W.cell? ⟨W4.heap.size, 0, none⟩ = some (.bool false) ∧ W.cell? ⟨W4.heap.size, 1, none⟩ = some (.slice A' x.its.length c') ∧ W.cell? ⟨W4.heap.size, 2, none⟩ = some (.slice B' x.kds.length d') ∧ W.cell? ⟨W2.heap.size, 0, none⟩ = some (.bool false) ∧ W.cell? ⟨W2.heap.size, 1, none⟩ = some (.slice QA x.its.length qc) ∧ W.cell? ⟨W2.heap.size, 2, none⟩ = some (.slice QB x.kds.length qd) ∧ W.cell? ⟨w.heap.size, 0, none⟩ = some (.bool false) ∧ W.cell? ⟨w.heap.size, 1, none⟩ = some (.slice A 0 c) ∧ W.cell? ⟨w.heap.size, 2, none⟩ = some (.slice B 0 d))) (by kernel_rfl) (by kernel_rfl) (by kernel_rfl) (KZ.out _ HOZ.out) (fun hsel hHeld => ?_)
          obtain ⟨wy, hwy⟩ : ∃ wy, wy = wr.drew := ⟨_, rfl⟩
          rw [← hwy] at HOZ hHeld
          rw [← hwy]
          clear hwy
          refine wpAnyL_ready (rs := [0]) (by kernel_rfl) (by kernel_rfl) (by simp) ?_
          refine AllReadyL.cons (o := ?_) ?_ (fun K hK => ?_) AllReadyL.nil
          case refine_2 => (simp only [List.getElem?_cons_zero]; rfl)
          go_simp
          (go_at_call 7; (with_reducible refine (HAL.out _ (on_new (on_new HO.out HA.out.2.2) HOZ.out)).mono ?_); rintro ee w11 ⟨rfl, ho⟩; (replace HOZ := Lib.hid (on_new HOZ.out ho)); clear ho)
          go_wp2_with (fail)
          clear hHeld
          refine hK.out _ _ (KZ.out _ HOZ.out) (fun hHeld => ?_)
          clear hK K
          try simp only [Act.put, List.setIfInBounds_toArray, List.set_cons_zero, List.set_cons_succ]
          refine take_oneL (i := 1) (d := 138) (oi := ?_) (v := ?_) ?_ hsel (by kernel_rfl) (by kernel_rfl) (fun _ _ _ h => h) ?_ ?_ ?_ (by assumption) ?_
          case refine_3 => (simp only [List.getElem?_cons_succ, List.getElem?_cons_zero]; rfl)
          case refine_4 => rfl
          case refine_5 => rfl
          case refine_6 => (intro w' hSw; (try dsimp only at hSw); go_simp; (try with_reducible rfl))
          simp only [Act.put, List.setIfInBounds_toArray, List.set_cons_zero, List.set_cons_succ]
          refine take_oneL (i := 2) (d := 139) (oi := ?_) (v := ?_) ?_ hsel (by kernel_rfl) (by kernel_rfl) (fun _ _ _ h => h) ?_ ?_ ?_ (by assumption) ?_
          case refine_3 => (simp only [List.getElem?_cons_succ, List.getElem?_cons_zero]; rfl)
          case refine_4 => rfl
          case refine_5 => rfl
          case refine_6 => (intro w' hSw; (try dsimp only at hSw); go_simp; (try with_reducible rfl))
          simp only [Act.put, List.setIfInBounds_toArray, List.set_cons_zero, List.set_cons_succ]
          refine take_oneL (i := 3) (d := 140) (oi := ?_) (v := ?_) ?_ hsel (by kernel_rfl) (by kernel_rfl) (fun _ _ _ h => h) ?_ ?_ ?_ (by assumption) ?_
          case refine_3 => (simp only [List.getElem?_cons_succ, List.getElem?_cons_zero]; rfl)
          case refine_4 => rfl
          case refine_5 => rfl
          case refine_6 => (intro w' hSw; (try dsimp only at hSw); go_simp; (try with_reducible rfl))
          simp only [Act.put, List.setIfInBounds_toArray, List.set_cons_zero, List.set_cons_succ]
          refine wpAnyL_ready (rs := [4]) (by kernel_rfl) (by kernel_rfl) (by simp) ?_
          refine AllReadyL.cons (o := ?_) ?_ (fun K hK => ?_) AllReadyL.nil
          case refine_2 => (simp only [List.getElem?_cons_succ, List.getElem?_cons_zero]; rfl)
          go_simp
          (go_at_call 16; (with_reducible refine (NSame_eq _ _ _ _ _ _ _ _ _ _ _ _ x (HNA.out.later HOZ.out) (HNX.out.later HOZ.out) HSX.out.1 HSX.out.2).mono ?_); rintro ee w12 ⟨rfl, ho⟩; (replace HOZ := Lib.hid (on_new HOZ.out ho)); clear ho)
          go_wp2_with (fail)
          clear hHeld
          refine hK.out _ _ (KZ.out _ HOZ.out) (fun hHeld => ?_)
          clear hK K
          try simp only [Act.put, List.setIfInBounds_toArray, List.set_cons_zero, List.set_cons_succ]
          refine take_oneL (i := 5) (d := 142) (oi := ?_) (v := ?_) ?_ hsel (by kernel_rfl) (by kernel_rfl) (fun _ _ _ h => h) ?_ ?_ ?_ (by assumption) ?_
          case refine_3 => (simp only [List.getElem?_cons_succ, List.getElem?_cons_zero]; rfl)
          case refine_4 => rfl
          case refine_5 => rfl
          case refine_6 => (intro w' hSw; (try dsimp only at hSw); go_simp; (try with_reducible rfl))
          simp only [Act.put, List.setIfInBounds_toArray, List.set_cons_zero, List.set_cons_succ]
          refine take_oneL (i := 6) (d := 143) (oi := ?_) (v := ?_) ?_ hsel (by kernel_rfl) (by kernel_rfl) (fun _ _ _ h => h) ?_ ?_ ?_ (by assumption) ?_
          case refine_3 => (simp only [List.getElem?_cons_succ, List.getElem?_cons_zero]; rfl)
          case refine_4 => rfl
          case refine_5 => rfl
          case refine_6 => (intro w' hSw; (try dsimp only at hSw); go_simp; (try with_reducible rfl))
          simp only [Act.put, List.setIfInBounds_toArray, List.set_cons_zero, List.set_cons_succ]
          refine take_oneL (i := 7) (d := 144) (oi := ?_) (v := ?_) ?_ hsel (by kernel_rfl) (by kernel_rfl) (fun _ _ _ h => h) ?_ ?_ ?_ (by assumption) ?_
          case refine_3 => (simp only [List.getElem?_cons_succ, List.getElem?_cons_zero]; rfl)
          case refine_4 => rfl
          case refine_5 => rfl
          case refine_6 => (intro w' hSw; (try dsimp only at hSw); go_simp; (try with_reducible rfl))
          simp only [Act.put, List.setIfInBounds_toArray, List.set_cons_zero, List.set_cons_succ]
          refine take_oneL (i := 9) (d := 146) (oi := ?_) (v := ?_) ?_ hsel (by kernel_rfl) (by kernel_rfl) (fun _ _ _ h => h) ?_ ?_ ?_ (by assumption) ?_
          case refine_3 => (simp only [List.getElem?_cons_succ, List.getElem?_cons_zero]; rfl)
          case refine_4 => rfl
          case refine_5 => rfl
          case refine_6 => (intro w' hSw; (try dsimp only at hSw); go_simp; (try with_reducible rfl))
          simp only [Act.put, List.setIfInBounds_toArray, List.set_cons_zero, List.set_cons_succ]
          refine wpAnyL_ready (rs := [8]) (by kernel_rfl) (by kernel_rfl) (by simp) ?_
          refine AllReadyL.cons (o := ?_) ?_ (fun K hK => ?_) AllReadyL.nil
          case refine_2 => (simp only [List.getElem?_cons_succ, List.getElem?_cons_zero]; rfl)
          go_simp
          (go_at_call 13; (with_reducible refine (HOL.out _ HOZ.out).mono ?_); rintro ee w13 ⟨OA, on, oc, OB, om, od, rfl, hno, ho⟩; (obtain rfl := hno.2.1.len); (obtain rfl := hno.2.2.len); have HNO := Lib.hid hno; clear hno; (replace HOZ := Lib.hid (on_new HOZ.out ho)); clear ho)
          go_wp2_with (fail)
          clear hHeld
          refine hK.out _ _ (KZ.out _ HOZ.out) (fun hHeld => ?_)
          clear hK K
          try simp only [Act.put, List.setIfInBounds_toArray, List.set_cons_zero, List.set_cons_succ]
          refine wpAnyL_ready (rs := [10]) (by kernel_rfl) (by kernel_rfl) (by simp) ?_
          refine AllReadyL.cons (o := ?_) ?_ (fun K hK => ?_) AllReadyL.nil
          case refine_2 => (simp only [List.getElem?_cons_succ, List.getElem?_cons_zero]; rfl)
          go_simp
          (go_at_call 12; (with_reducible refine (HDS.out _ _ _ _ _ HOZ.out HNO.out).mono ?_); rintro ee w14 ⟨rfl, ho⟩; (replace HOZ := Lib.hid (on_new HOZ.out ho)); clear ho)
          go_wp2_with (fail)
          clear hHeld
          refine hK.out _ _ (KZ.out _ HOZ.out) (fun hHeld => ?_)
          clear hK K
          try simp only [Act.put, List.setIfInBounds_toArray, List.set_cons_zero, List.set_cons_succ]
          refine take_oneL (i := 11) (d := 148) (oi := ?_) (v := ?_) ?_ hsel (by kernel_rfl) (by kernel_rfl) (fun _ _ _ h => h) ?_ ?_ ?_ (by assumption) ?_
          case refine_3 => (simp only [List.getElem?_cons_succ, List.getElem?_cons_zero]; rfl)
          case refine_4 => rfl
          case refine_5 => rfl
          case refine_6 => (intro w' hSw; (try dsimp only at hSw); go_simp; (try with_reducible rfl))
          simp only [Act.put, List.setIfInBounds_toArray, List.set_cons_zero, List.set_cons_succ]
          refine take_oneL (i := 12) (d := 4) (oi := ?_) (v := ?_) ?_ hsel (by kernel_rfl) (by kernel_rfl) (fun _ _ _ h => h) ?_ ?_ ?_ (by assumption) ?_
          case refine_3 => (simp only [List.getElem?_cons_succ, List.getElem?_cons_zero]; rfl)
          case refine_4 => rfl
          case refine_5 => rfl
          case refine_6 => (intro w' hSw; (try dsimp only at hSw); go_simp; (try with_reducible rfl))
          simp only [Act.put, List.setIfInBounds_toArray, List.set_cons_zero, List.set_cons_succ]
          refine wpAnyL_done (by kernel_rfl) (by kernel_rfl) ?_ _
          clear hsel hHeld
          go_wp2
          go_ret
          exact ⟨rfl, on_new (on_new HO.out HA.out.2.2) HOZ.out⟩
  · by_cases h4 : 0 < m
    · have h4i : (0 : Int) < (m : Int) := by omega
      go_wp2_with (first | (go_at_call 6; (with_reducible refine (HF.out _ HO.out).mono ?_); rintro ee W1 ⟨rfl, ho⟩; clear b0 b1 b2; (replace HO := Lib.hid (on_new HO.out ho)); (replace HB := Lib.hid (HB.out.later ho)); (obtain ⟨b0, b1, b2⟩ := HB.out.tri); clear ho) | (go_at_call 7; (with_reducible refine (HAL.out _ HO.out).mono ?_); rintro ee W9 ⟨rfl, ho⟩; clear b0 b1 b2; (replace HO := Lib.hid (on_new HO.out ho)); (replace HB := Lib.hid (HB.out.later ho)); (obtain ⟨b0, b1, b2⟩ := HB.out.tri); clear ho))
      go_ret
      exact ⟨rfl, HO.out⟩
    obtain rfl : m = 0 := by omega
    go_upto_region 3 with ((go_at_call 6; (with_reducible refine (HF.out _ HO.out).mono ?_); rintro ee W1 ⟨rfl, ho⟩; clear b0 b1 b2; (replace HO := Lib.hid (on_new HO.out ho)); (replace HB := Lib.hid (HB.out.later ho)); (obtain ⟨b0, b1, b2⟩ := HB.out.tri); clear ho))
    have HSM := Lib.hid HFW.out.small
    have HPU : Hid (Pure x) := Lib.hid (by
      have h := HL.out
      unfold Pure
      rw [← h.1]
      first | exact List.eq_nil_of_length_eq_zero h.2.2.symm | exact List.eq_nil_of_length_eq_zero h.2.1.symm)
    have HM60 : Hid (many x ≤ 120) := Lib.hid (by have h := HFW.out; rw [HPU.out.many]; have := h.1; have := h.2.1; omega)
    have HSX : Hid (x.its.length ≤ 1000 ∧ x.kds.length ≤ 1000) := Lib.hid ⟨HSM.out.1, HSM.out.2.1⟩
    have HLF : Hid (true = x.leaf) := Lib.hid HL.out.1
    have HOF : Hid (∀ W, Only (w.heap.size ≤ ·) w W → Calls Tryd.prog 8 #[.agg #[.bool true, .slice A n c, .slice B 0 d]] W (GaveF W true x)) := Lib.hid fun W hW => (NOf_c W _ _ _ _ _ _ _ x (HN.out.later hW) HSM.out).mono fun e w' h => h.toF HLF.out
    go_upto_region 4 with (go_at_call 8; (with_reducible refine (HOF.out _ HO.out).mono ?_); rintro ee W2 ⟨QA, qn, qc, QB, qm, qd, rfl, hn2, ho⟩; have HN2 := Lib.hid hn2; clear hn2 b0 b1 b2; (replace HO := Lib.hid (on_new HO.out ho)); (replace HB := Lib.hid (HB.out.later ho)); (obtain ⟨b0, b1, b2⟩ := HB.out.tri); clear ho)
    obtain ⟨wa, hwa⟩ : ∃ wa, wa = W2.alloc (.cells #[.bool true, .slice QA qn qc, .slice QB qm qd] 34) := ⟨_, rfl⟩
    have hBx : Blk wa W2.heap.size 34 [.bool true, .slice QA qn qc, .slice QB qm qd] := by rw [hwa]; exact Blk.new W2 34 _
    have hoa : Only (W2.heap.size ≤ ·) W2 wa := by rw [hwa]; exact (Only.refl _ W2).alloc (fun _ h => h) _
    rw [← hwa]
    replace HB := Lib.hid (HB.out.later hoa)
    replace HO := Lib.hid (on_new HO.out hoa)
    replace HN2 := Lib.hid (HN2.out.later hoa)
    have HX := Lib.hid hBx
    clear hwa hBx hoa b0 b1 b2 HOF
    have KX : Hid (∀ W, Only (wa.heap.size ≤ ·) wa W → W.cell? ⟨W2.heap.size, 0, none⟩ = some (.bool true) ∧ W.cell? ⟨W2.heap.size, 1, none⟩ = some (.slice QA qn qc) ∧ W.cell? ⟨W2.heap.size, 2, none⟩ = some (.slice QB qm qd) ∧ W.cell? ⟨w.heap.size, 0, none⟩ = some (.bool true) ∧ W.cell? ⟨w.heap.size, 1, none⟩ = some (.slice A n c) ∧ W.cell? ⟨w.heap.size, 2, none⟩ = some (.slice B 0 d)) := Lib.hid fun W hW => ⟨(HX.out.later hW).tri.1, (HX.out.later hW).tri.2.1, (HX.out.later hW).tri.2.2, (HB.out.later hW).tri⟩
    have HOZ : Hid (Only (wa.heap.size ≤ ·) wa wa.drew) := Lib.hid (Only.refl _ wa).drew
    refine wp_region_list (B := [false, false, false, false, false, false, false, false]) (S := (fun W => W.cell? ⟨W2.heap.size, 0, none⟩ = some (.bool true) ∧ W.cell? ⟨W2.heap.size, 1, none⟩ = some (.slice QA qn qc) ∧ W.cell? ⟨W2.heap.size, 2, none⟩ = some (.slice QB qm qd) ∧ W.cell? ⟨w.heap.size, 0, none⟩ = some (.bool true) ∧ W.cell? ⟨w.heap.size, 1, none⟩ = some (.slice A n c) ∧ W.cell? ⟨w.heap.size, 2, none⟩ = some (.slice B 0 d))) (by kernel_rfl) (by kernel_rfl) (by kernel_rfl) (KX.out _ HOZ.out) (fun hsel hHeld => ?_)
    obtain ⟨wz, hwz⟩ : ∃ wz, wz = wa.drew := ⟨_, rfl⟩
    rw [← hwz] at HOZ hHeld
    rw [← hwz]
    clear hwz
    refine take_oneL (i := 0) (d := 61) (oi := ?_) (v := ?_) ?_ hsel (by kernel_rfl) (by kernel_rfl) (fun _ _ _ h => h) ?_ ?_ ?_ (by assumption) ?_
    case refine_3 => (simp only [List.getElem?_cons_zero]; rfl)
    case refine_4 => rfl
    case refine_5 => rfl
    case refine_6 => (intro w' hSw; (try dsimp only at hSw); go_simp; (try with_reducible rfl))
    simp only [Act.put, List.setIfInBounds_toArray, List.set_cons_zero, List.set_cons_succ]
    refine take_oneL (i := 1) (d := 62) (oi := ?_) (v := ?_) ?_ hsel (by kernel_rfl) (by kernel_rfl) (fun _ _ _ h => h) ?_ ?_ ?_ (by assumption) ?_
    case refine_3 => (simp only [List.getElem?_cons_succ, List.getElem?_cons_zero]; rfl)
    case refine_4 => rfl
    case refine_5 => rfl
    case refine_6 => (intro w' hSw; (try dsimp only at hSw); go_simp; (try with_reducible rfl))
    simp only [Act.put, List.setIfInBounds_toArray, List.set_cons_zero, List.set_cons_succ]
    refine take_oneL (i := 3) (d := 64) (oi := ?_) (v := ?_) ?_ hsel (by kernel_rfl) (by kernel_rfl) (fun _ _ _ h => h) ?_ ?_ ?_ (by assumption) ?_
    case refine_3 => (simp only [List.getElem?_cons_succ, List.getElem?_cons_zero]; rfl)
    case refine_4 => rfl
    case refine_5 => rfl
    case refine_6 => (intro w' hSw; (try dsimp only at hSw); go_simp; (try with_reducible rfl))
    simp only [Act.put, List.setIfInBounds_toArray, List.set_cons_zero, List.set_cons_succ]
    refine take_oneL (i := 4) (d := 65) (oi := ?_) (v := ?_) ?_ hsel (by kernel_rfl) (by kernel_rfl) (fun _ _ _ h => h) ?_ ?_ ?_ (by assumption) ?_
    case refine_3 => (simp only [List.getElem?_cons_succ, List.getElem?_cons_zero]; rfl)
    case refine_4 => rfl
    case refine_5 => rfl
    case refine_6 => (intro w' hSw; (try dsimp only at hSw); go_simp; (try with_reducible rfl))
    simp only [Act.put, List.setIfInBounds_toArray, List.set_cons_zero, List.set_cons_succ]
    refine wpAnyL_ready (rs := [2]) (by kernel_rfl) (by kernel_rfl) (by simp) ?_
    refine AllReadyL.cons (o := ?_) ?_ (fun K hK => ?_) AllReadyL.nil
    case refine_2 => (simp only [List.getElem?_cons_succ, List.getElem?_cons_zero]; rfl)
    go_simp
    (go_at_call 9; (with_reducible refine (Parts_n _ true _ _ _ _ _ _ x g (HN2.out.later HOZ.out) (HG.out.later (on_new HO.out HOZ.out)) HSM.out).mono ?_); rintro ee W3 ⟨PA, pn, pc, l, rfl, hcu, hpt, ho⟩; have HCU := Lib.hid hcu; have HP := Lib.hid hpt; clear hcu hpt; (replace HOZ := Lib.hid (on_new HOZ.out ho)); clear ho)
    go_wp2_with (fail)
    clear hHeld
    refine hK.out _ _ (KX.out _ HOZ.out) (fun hHeld => ?_)
    clear hK K
    try simp only [Act.put, List.setIfInBounds_toArray, List.set_cons_zero, List.set_cons_succ]
    refine wpAnyL_ready (rs := [5]) (by kernel_rfl) (by kernel_rfl) (by simp) ?_
    refine AllReadyL.cons (o := ?_) ?_ (fun K hK => ?_) AllReadyL.nil
    case refine_2 => (simp only [List.getElem?_cons_succ, List.getElem?_cons_zero]; rfl)
    go_simp
    (go_at_call 10; (with_reducible refine (DParts_c g (many x) _ (fun _ => False) true none _ _ 0 0 _ _ _ _ [] x (Nat.le_refl _) HSM.out (fun k h => h.elim) (HN.out.later (on_new HO.out HOZ.out)).snod rfl (Src.nil_ _).stab).mono ?_); rintro ee W4 ⟨WA, wn, wc, l2, C2, rfl, hcu2, hwn, hown, hden, ho⟩; (obtain rfl := Cuts.uniq HCU.out hcu2); (replace HP := Lib.hid (HP.out.later ho)); have HW : Hid (Pts W4 (.slice WA wn wc) l) := Lib.hid (Own.rw_ ⟨hwn, C2, hden.now, hown⟩); clear hcu2 hwn hown hden; (replace HOZ := Lib.hid (on_new HOZ.out ho)); clear ho)
    go_wp2_with (fail)
    clear hHeld
    refine hK.out _ _ (KX.out _ HOZ.out) (fun hHeld => ?_)
    clear hK K
    try simp only [Act.put, List.setIfInBounds_toArray, List.set_cons_zero, List.set_cons_succ]
    refine take_oneL (i := 6) (d := 6) (oi := ?_) (v := ?_) ?_ hsel (by kernel_rfl) (by kernel_rfl) (fun _ _ _ h => h) ?_ ?_ ?_ (by assumption) ?_
    case refine_3 => (simp only [List.getElem?_cons_succ, List.getElem?_cons_zero]; rfl)
    case refine_4 => rfl
    case refine_5 => rfl
    case refine_6 => (intro w' hSw; (try dsimp only at hSw); go_simp; (try with_reducible rfl))
    simp only [Act.put, List.setIfInBounds_toArray, List.set_cons_zero, List.set_cons_succ]
    refine take_oneL (i := 7) (d := 7) (oi := ?_) (v := ?_) ?_ hsel (by kernel_rfl) (by kernel_rfl) (fun _ _ _ h => h) ?_ ?_ ?_ (by assumption) ?_
    case refine_3 => (simp only [List.getElem?_cons_succ, List.getElem?_cons_zero]; rfl)
    case refine_4 => rfl
    case refine_5 => rfl
    case refine_6 => (intro w' hSw; (try dsimp only at hSw); go_simp; (try with_reducible rfl))
    simp only [Act.put, List.setIfInBounds_toArray, List.set_cons_zero, List.set_cons_succ]
    refine wpAnyL_done (by kernel_rfl) (by kernel_rfl) ?_ _
    clear hsel hHeld
    replace HO := Lib.hid (on_new HO.out HOZ.out)
    replace HB := Lib.hid (HB.out.later HOZ.out)
    replace HX := Lib.hid (HX.out.later HOZ.out)
    have HNX := Lib.hid (HN2.out.later HOZ.out)
    clear KX HOZ HN2
    obtain rfl : pn = l.length := HP.out.len
    obtain rfl : wn = l.length := HW.out.len
    have hpc := HP.out.cap
    have hwc := HW.out.cap
    have HLE : Hid (l.length ≤ 120 ∧ 0 < l.length) := Lib.hid ⟨by have := HCU.out.most; have := HM60.out; omega, HCU.out.pos⟩
    have hl120 := HLE.out.1
    have hl0 : (0 : Int) < (l.length : Int) := by have := HLE.out.2; omega
    have hl00 : ((l.length : Int) == 0) = false := by have := HLE.out.2; rw [beq_eq_false_iff_ne]; omega
    have HSALL : Hid (∀ p ∈ l, Small p.2) := Lib.hid (HCU.out.all (fun y k h _ _ => h.halves k) HSM.out)
    have HALL : Hid (∀ p ∈ l, p.2.its.length ≤ 60 ∧ p.2.kds.length ≤ 60) := Lib.hid (HCU.out.all (P := fun y => y.its.length ≤ 60 ∧ y.kds.length ≤ 60) (fun y k h _ _ => sixty h k) ⟨HFW.out.1, HFW.out.2.1⟩)
    have HKEYS : Hid (∀ p ∈ l, p.1.length ≤ 1000) := Lib.hid (HCU.out.keys HSM.out (by simp))
    obtain ⟨pb, po, y0, P1, Q1, R1, p1, q1, r1, rfl, hpb, hy0, c0, c1, c2, c3, _, n0⟩ := pts_at HP.out (k := 0) HLE.out.2
    simp only [Nat.zero_mul, Nat.add_zero] at c0 c1 c2 c3
    have HN0 := Lib.hid n0
    have HY0 := Lib.hid hy0
    clear n0 hy0 hpb
    go_wp2
    obtain ⟨we, hwe⟩ : ∃ we, we = W4.alloc (.cells #[.bool y0.2.leaf, .slice Q1 y0.2.its.length q1, .slice R1 y0.2.kds.length r1] 34) := ⟨_, rfl⟩
    have hBa : Blk we W4.heap.size 34 [.bool y0.2.leaf, .slice Q1 y0.2.its.length q1, .slice R1 y0.2.kds.length r1] := by rw [hwe]; exact Blk.new W4 34 _
    have hue : Only (W4.heap.size ≤ ·) W4 we := by rw [hwe]; exact (Only.refl _ W4).alloc (fun _ h => h) _
    have HA0 : Hid (Blk we W4.heap.size 34 [.bool y0.2.leaf, .slice Q1 y0.2.its.length q1, .slice R1 y0.2.kds.length r1] ∧ SNod (· = W4.heap.size) we (jn l 0) y0.2.leaf (.slice Q1 y0.2.its.length q1) (.slice R1 y0.2.kds.length r1) ∧ Only (W4.heap.size ≤ ·) W4 we) := Lib.hid ⟨hBa, by rw [(jn_zero HY0.out).1]; exact nod_free hBa (HN0.out.later hue), hue⟩
    rw [← hwe]
    clear hwe hBa hue HN0 c0 c1 c2 c3
    go_loopw [83] (fun i wr => ∃ (k : Nat) (lf : Bool) (A' B' : Option Addr) (n' c' m' d' : Nat), k ≤ l.length ∧ i = .int .i64 k ∧ Hid (Blk wr W4.heap.size 34 [.bool lf, .slice A' n' c', .slice B' m' d'] ∧ SNod (· = W4.heap.size) wr (jn l k) lf (.slice A' n' c') (.slice B' m' d') ∧ Only (W4.heap.size ≤ ·) W4 wr)) (fun i _ => l.length - (intOf i).toNat)
    case atStart => exact ⟨0, _, _, _, _, _, _, _, Nat.zero_le _, rfl, HA0⟩
    case round =>
      clear HA0 HY0
      obtain ⟨k, lf, A', B', n', c', m', d', hk, rfl, HA⟩ := hrel
      by_cases hlt : k < l.length
      · have hlti : (k : Int) < (l.length : Int) := by omega
        obtain ⟨pb', po', y, P3, Q3, R3, p3, q3, r3, e3, hpb, hy, c0, c1, c2, c3, s3, n3⟩ := pts_at (HP.out.later HA.out.2.2) hlt
        cases e3
        obtain ⟨vb, vo, y', V1, V2, V3, v1, v2, v3, rfl, hvb, hy', d0, d1, d2, d3, s4, n4⟩ := pts_at (HW.out.later HA.out.2.2) hlt
        obtain rfl : y = y' := Option.some.inj (hy.symm.trans hy')
        have HYK := Lib.hid hy
        have hyl : y ∈ l := List.mem_of_getElem? hy
        have HSY := Lib.hid (HSALL.out y hyl)
        have HSN : Hid (y.2.its.length ≤ 1000 ∧ y.2.kds.length ≤ 1000) := Lib.hid ⟨HSY.out.1, HSY.out.2.1⟩
        have HKL := Lib.hid (HKEYS.out y hyl)
        have HFT := Lib.hid (HCU.out.fits y hyl)
        have HPY := Lib.hid (HCU.out.pures HPU.out y hyl)
        have HDV : Hid (∀ W, Only (wr.heap.size ≤ ·) wr W → W.cell? ⟨vb, vo + k * 4, none⟩ = some (.slice V1 y.1.length v1) ∧ W.cell? ⟨vb, vo + k * 4 + 1, none⟩ = some (.bool y.2.leaf) ∧ W.cell? ⟨vb, vo + k * 4 + 2, none⟩ = some (.slice V2 y.2.its.length v2) ∧ W.cell? ⟨vb, vo + k * 4 + 3, none⟩ = some (.slice V3 y.2.kds.length v3)) := Lib.hid fun W hW => ⟨(hW.cell (p := ⟨vb, vo + k * 4, none⟩) (Nat.not_le.2 hvb)).trans d0, (hW.cell (p := ⟨vb, vo + k * 4 + 1, none⟩) (Nat.not_le.2 hvb)).trans d1, (hW.cell (p := ⟨vb, vo + k * 4 + 2, none⟩) (Nat.not_le.2 hvb)).trans d2, (hW.cell (p := ⟨vb, vo + k * 4 + 3, none⟩) (Nat.not_le.2 hvb)).trans d3⟩
        have HS3 := Lib.hid s3
        have HS4 := Lib.hid s4
        have HN3 := Lib.hid n3
        have HN4 := Lib.hid n4
        clear hy hy' hyl hpb hvb d0 d1 d2 d3 s3 s4 n3 n4
        go_upto_region 11 with (fail)
        obtain ⟨wp, hwp⟩ : ∃ wp, wp = wr.alloc (.cells #[.slice P3 y.1.length p3, .bool y.2.leaf, .slice Q3 y.2.its.length q3, .slice R3 y.2.kds.length r3] 41) := ⟨_, rfl⟩
        have hBp : Blk wp wr.heap.size 41 [.slice P3 y.1.length p3, .bool y.2.leaf, .slice Q3 y.2.its.length q3, .slice R3 y.2.kds.length r3] := by rw [hwp]; exact Blk.new wr 41 _
        have hop : Only (wr.heap.size ≤ ·) wr wp := by rw [hwp]; exact (Only.refl _ wr).alloc (fun _ h => h) _
        rw [← hwp]
        have HBP := Lib.hid hBp
        have HAP : Hid (Blk wp W4.heap.size 34 [.bool lf, .slice A' n' c', .slice B' m' d'] ∧ SNod (· = W4.heap.size) wp (jn l k) lf (.slice A' n' c') (.slice B' m' d') ∧ Only (W4.heap.size ≤ ·) W4 wp) := Lib.hid ⟨HA.out.1.later hop, HA.out.2.1.later hop, on_new HA.out.2.2 hop⟩
        have HOP := Lib.hid (on_new HO.out HAP.out.2.2)
        have HSK := Lib.hid (HS3.out.later hop)
        have HSV := Lib.hid (HS4.out.later hop)
        have HNY := Lib.hid (HN3.out.later hop)
        have HNV := Lib.hid (HN4.out.later hop)
        have KP : Hid (∀ W, Only (wp.heap.size ≤ ·) wp W → W.cell? ⟨wr.heap.size, 0, none⟩ = some (.slice P3 y.1.length p3) ∧ W.cell? ⟨wr.heap.size, 1, none⟩ = some (.bool y.2.leaf) ∧ W.cell? ⟨wr.heap.size, 2, none⟩ = some (.slice Q3 y.2.its.length q3) ∧ W.cell? ⟨wr.heap.size, 3, none⟩ = some (.slice R3 y.2.kds.length r3) ∧ W.cell? ⟨vb, vo + k * 4, none⟩ = some (.slice V1 y.1.length v1) ∧ W.cell? ⟨vb, vo + k * 4 + 1, none⟩ = some (.bool y.2.leaf) ∧ W.cell? ⟨vb, vo + k * 4 + 2, none⟩ = some (.slice V2 y.2.its.length v2) ∧ W.cell? ⟨vb, vo + k * 4 + 3, none⟩ = some (.slice V3 y.2.kds.length v3)) := Lib.hid fun W hW => ⟨(HBP.out.later hW).cell 0, (HBP.out.later hW).cell 1, (HBP.out.later hW).cell 2, (HBP.out.later hW).cell 3, HDV.out W (on_new hop hW)⟩
        have HOZ : Hid (Only (wp.heap.size ≤ ·) wp wp.drew) := Lib.hid (Only.refl _ wp).drew
        clear hwp hBp hop HS3 HS4 HN3 HN4 c0 c1 c2 c3
        obtain ⟨my, hmy⟩ : ∃ my, my = many y.2 := ⟨_, rfl⟩
        have hms : my = y.2.its.length + y.2.kds.length := by rw [hmy]; exact HPY.out.many
        have hw1 : IntKind.i64.wrap ((y.2.its.length : Int) + (y.2.kds.length : Int)) = (my : Int) := by have h1 := HSY.out.1; have h2 := HSY.out.2.1; rw [IntWalk.i64_in _ (by omega)]; omega
        have HMY := Lib.hid hmy
        clear hmy hms
        obtain ⟨b, hb⟩ : ∃ b, nfit g y.2 = b := ⟨_, rfl⟩
        have HBF := Lib.hid hb
        clear hb
        cases b
        · have hmy1 : ¬ (1 : Int) < (my : Int) := by
            have h := HFT.out
            rw [HBF.out] at h
            rcases h with h | h
            · cases h
            · have := HMY.out; omega
          refine wp_region_list (B := [false, false, false, false, false, false, false, false, false, false, false, false, false, false, false, false, false, false, false, false, false, false, false, false, false, false, false, false, false, false, false, false, false, false, false, false, false, false, false, false]) (S := (fun W => W.cell? ⟨wr.heap.size, 0, none⟩ = some (.slice P3 y.1.length p3) ∧ W.cell? ⟨wr.heap.size, 1, none⟩ = some (.bool y.2.leaf) ∧ W.cell? ⟨wr.heap.size, 2, none⟩ = some (.slice Q3 y.2.its.length q3) ∧ W.cell? ⟨wr.heap.size, 3, none⟩ = some (.slice R3 y.2.kds.length r3) ∧ W.cell? ⟨vb, vo + k * 4, none⟩ = some (.slice V1 y.1.length v1) ∧ W.cell? ⟨vb, vo + k * 4 + 1, none⟩ = some (.bool y.2.leaf) ∧ W.cell? ⟨vb, vo + k * 4 + 2, none⟩ = some (.slice V2 y.2.its.length v2) ∧ W.cell? ⟨vb, vo + k * 4 + 3, none⟩ = some (.slice V3 y.2.kds.length v3))) (by kernel_rfl) (by kernel_rfl) (by kernel_rfl) (KP.out _ HOZ.out) (fun hsel hHeld => ?_)
          obtain ⟨wq, hwq⟩ : ∃ wq, wq = wp.drew := ⟨_, rfl⟩
          rw [← hwq] at HOZ hHeld
          rw [← hwq]
          clear hwq
          refine take_oneL (i := 0) (d := 88) (oi := ?_) (v := ?_) ?_ hsel (by kernel_rfl) (by kernel_rfl) (fun _ _ _ h => h) ?_ ?_ ?_ (by assumption) ?_
          case refine_3 => (simp only [List.getElem?_cons_zero]; rfl)
          case refine_4 => rfl
          case refine_5 => rfl
          case refine_6 => (intro w' hSw; (try dsimp only at hSw); go_simp; (try with_reducible rfl))
          simp only [Act.put, List.setIfInBounds_toArray, List.set_cons_zero, List.set_cons_succ]
          refine take_oneL (i := 1) (d := 89) (oi := ?_) (v := ?_) ?_ hsel (by kernel_rfl) (by kernel_rfl) (fun _ _ _ h => h) ?_ ?_ ?_ (by assumption) ?_
          case refine_3 => (simp only [List.getElem?_cons_succ, List.getElem?_cons_zero]; rfl)
          case refine_4 => rfl
          case refine_5 => rfl
          case refine_6 => (intro w' hSw; (try dsimp only at hSw); go_simp; (try with_reducible rfl))
          simp only [Act.put, List.setIfInBounds_toArray, List.set_cons_zero, List.set_cons_succ]
          refine take_oneL (i := 2) (d := 90) (oi := ?_) (v := ?_) ?_ hsel (by kernel_rfl) (by kernel_rfl) (fun _ _ _ h => h) ?_ ?_ ?_ (by assumption) ?_
          case refine_3 => (simp only [List.getElem?_cons_succ, List.getElem?_cons_zero]; rfl)
          case refine_4 => rfl
          case refine_5 => rfl
          case refine_6 => (intro w' hSw; (try dsimp only at hSw); go_simp; (try with_reducible rfl))
          simp only [Act.put, List.setIfInBounds_toArray, List.set_cons_zero, List.set_cons_succ]
          refine take_oneL (i := 3) (d := 91) (oi := ?_) (v := ?_) ?_ hsel (by kernel_rfl) (by kernel_rfl) (fun _ _ _ h => h) ?_ ?_ ?_ (by assumption) ?_
          case refine_3 => (simp only [List.getElem?_cons_succ, List.getElem?_cons_zero]; rfl)
          case refine_4 => rfl
          case refine_5 => rfl
          case refine_6 => (intro w' hSw; (try dsimp only at hSw); go_simp; (try with_reducible rfl))
          simp only [Act.put, List.setIfInBounds_toArray, List.set_cons_zero, List.set_cons_succ]
          refine take_oneL (i := 4) (d := 92) (oi := ?_) (v := ?_) ?_ hsel (by kernel_rfl) (by kernel_rfl) (fun _ _ _ h => h) ?_ ?_ ?_ (by assumption) ?_
          case refine_3 => (simp only [List.getElem?_cons_succ, List.getElem?_cons_zero]; rfl)
          case refine_4 => rfl
          case refine_5 => rfl
          case refine_6 => (intro w' hSw; (try dsimp only at hSw); go_simp; (try with_reducible rfl))
          simp only [Act.put, List.setIfInBounds_toArray, List.set_cons_zero, List.set_cons_succ]
          refine take_oneL (i := 5) (d := 93) (oi := ?_) (v := ?_) ?_ hsel (by kernel_rfl) (by kernel_rfl) (fun _ _ _ h => h) ?_ ?_ ?_ (by assumption) ?_
          case refine_3 => (simp only [List.getElem?_cons_succ, List.getElem?_cons_zero]; rfl)
          case refine_4 => rfl
          case refine_5 => rfl
          case refine_6 => (intro w' hSw; (try dsimp only at hSw); go_simp; (try with_reducible rfl))
          simp only [Act.put, List.setIfInBounds_toArray, List.set_cons_zero, List.set_cons_succ]
          refine take_oneL (i := 6) (d := 94) (oi := ?_) (v := ?_) ?_ hsel (by kernel_rfl) (by kernel_rfl) (fun _ _ _ h => h) ?_ ?_ ?_ (by assumption) ?_
          case refine_3 => (simp only [List.getElem?_cons_succ, List.getElem?_cons_zero]; rfl)
          case refine_4 => rfl
          case refine_5 => rfl
          case refine_6 => (intro w' hSw; (try dsimp only at hSw); go_simp; (try with_reducible rfl))
          simp only [Act.put, List.setIfInBounds_toArray, List.set_cons_zero, List.set_cons_succ]
          refine wpAnyL_ready (rs := [7]) (by kernel_rfl) (by kernel_rfl) (by simp) ?_
          refine AllReadyL.cons (o := ?_) ?_ (fun K hK => ?_) AllReadyL.nil
          case refine_2 => (simp only [List.getElem?_cons_succ, List.getElem?_cons_zero]; rfl)
          go_simp
          (go_at_call 11; (with_reducible refine (Equal_b _ _ _ y.1 y.1 true (HSK.out.later HOZ.out) (HSV.out.later HOZ.out) (by simp)).mono ?_); rintro ee w7 ⟨rfl, rfl⟩)
          go_wp2_with (fail)
          clear hHeld
          refine hK.out _ _ (KP.out _ HOZ.out) (fun hHeld => ?_)
          clear hK K
          try simp only [Act.put, List.setIfInBounds_toArray, List.set_cons_zero, List.set_cons_succ]
          refine take_oneL (i := 8) (d := 96) (oi := ?_) (v := ?_) ?_ hsel (by kernel_rfl) (by kernel_rfl) (fun _ _ _ h => h) ?_ ?_ ?_ (by assumption) ?_
          case refine_3 => (simp only [List.getElem?_cons_succ, List.getElem?_cons_zero]; rfl)
          case refine_4 => rfl
          case refine_5 => rfl
          case refine_6 => (intro w' hSw; (try dsimp only at hSw); go_simp; (try with_reducible rfl))
          simp only [Act.put, List.setIfInBounds_toArray, List.set_cons_zero, List.set_cons_succ]
          refine take_oneL (i := 9) (d := 97) (oi := ?_) (v := ?_) ?_ hsel (by kernel_rfl) (by kernel_rfl) (fun _ _ _ h => h) ?_ ?_ ?_ (by assumption) ?_
          case refine_3 => (simp only [List.getElem?_cons_succ, List.getElem?_cons_zero]; rfl)
          case refine_4 => rfl
          case refine_5 => rfl
          case refine_6 => (intro w' hSw; (try dsimp only at hSw); go_simp; (try with_reducible rfl))
          simp only [Act.put, List.setIfInBounds_toArray, List.set_cons_zero, List.set_cons_succ]
          refine take_oneL (i := 10) (d := 98) (oi := ?_) (v := ?_) ?_ hsel (by kernel_rfl) (by kernel_rfl) (fun _ _ _ h => h) ?_ ?_ ?_ (by assumption) ?_
          case refine_3 => (simp only [List.getElem?_cons_succ, List.getElem?_cons_zero]; rfl)
          case refine_4 => rfl
          case refine_5 => rfl
          case refine_6 => (intro w' hSw; (try dsimp only at hSw); go_simp; (try with_reducible rfl))
          simp only [Act.put, List.setIfInBounds_toArray, List.set_cons_zero, List.set_cons_succ]
          refine take_oneL (i := 11) (d := 99) (oi := ?_) (v := ?_) ?_ hsel (by kernel_rfl) (by kernel_rfl) (fun _ _ _ h => h) ?_ ?_ ?_ (by assumption) ?_
          case refine_3 => (simp only [List.getElem?_cons_succ, List.getElem?_cons_zero]; rfl)
          case refine_4 => rfl
          case refine_5 => rfl
          case refine_6 => (intro w' hSw; (try dsimp only at hSw); go_simp; (try with_reducible rfl))
          simp only [Act.put, List.setIfInBounds_toArray, List.set_cons_zero, List.set_cons_succ]
          refine take_oneL (i := 13) (d := 101) (oi := ?_) (v := ?_) ?_ hsel (by kernel_rfl) (by kernel_rfl) (fun _ _ _ h => h) ?_ ?_ ?_ (by assumption) ?_
          case refine_3 => (simp only [List.getElem?_cons_succ, List.getElem?_cons_zero]; rfl)
          case refine_4 => rfl
          case refine_5 => rfl
          case refine_6 => (intro w' hSw; (try dsimp only at hSw); go_simp; (try with_reducible rfl))
          simp only [Act.put, List.setIfInBounds_toArray, List.set_cons_zero, List.set_cons_succ]
          refine take_oneL (i := 14) (d := 102) (oi := ?_) (v := ?_) ?_ hsel (by kernel_rfl) (by kernel_rfl) (fun _ _ _ h => h) ?_ ?_ ?_ (by assumption) ?_
          case refine_3 => (simp only [List.getElem?_cons_succ, List.getElem?_cons_zero]; rfl)
          case refine_4 => rfl
          case refine_5 => rfl
          case refine_6 => (intro w' hSw; (try dsimp only at hSw); go_simp; (try with_reducible rfl))
          simp only [Act.put, List.setIfInBounds_toArray, List.set_cons_zero, List.set_cons_succ]
          refine take_oneL (i := 15) (d := 103) (oi := ?_) (v := ?_) ?_ hsel (by kernel_rfl) (by kernel_rfl) (fun _ _ _ h => h) ?_ ?_ ?_ (by assumption) ?_
          case refine_3 => (simp only [List.getElem?_cons_succ, List.getElem?_cons_zero]; rfl)
          case refine_4 => rfl
          case refine_5 => rfl
          case refine_6 => (intro w' hSw; (try dsimp only at hSw); go_simp; (try with_reducible rfl))
          simp only [Act.put, List.setIfInBounds_toArray, List.set_cons_zero, List.set_cons_succ]
          refine take_oneL (i := 16) (d := 104) (oi := ?_) (v := ?_) ?_ hsel (by kernel_rfl) (by kernel_rfl) (fun _ _ _ h => h) ?_ ?_ ?_ (by assumption) ?_
          case refine_3 => (simp only [List.getElem?_cons_succ, List.getElem?_cons_zero]; rfl)
          case refine_4 => rfl
          case refine_5 => rfl
          case refine_6 => (intro w' hSw; (try dsimp only at hSw); go_simp; (try with_reducible rfl))
          simp only [Act.put, List.setIfInBounds_toArray, List.set_cons_zero, List.set_cons_succ]
          refine take_oneL (i := 17) (d := 105) (oi := ?_) (v := ?_) ?_ hsel (by kernel_rfl) (by kernel_rfl) (fun _ _ _ h => h) ?_ ?_ ?_ (by assumption) ?_
          case refine_3 => (simp only [List.getElem?_cons_succ, List.getElem?_cons_zero]; rfl)
          case refine_4 => rfl
          case refine_5 => rfl
          case refine_6 => (intro w' hSw; (try dsimp only at hSw); go_simp; (try with_reducible rfl))
          simp only [Act.put, List.setIfInBounds_toArray, List.set_cons_zero, List.set_cons_succ]
          refine wpAnyL_ready (rs := [12]) (by kernel_rfl) (by kernel_rfl) (by simp) ?_
          refine AllReadyL.cons (o := ?_) ?_ (fun K hK => ?_) AllReadyL.nil
          case refine_2 => (simp only [List.getElem?_cons_succ, List.getElem?_cons_zero]; rfl)
          go_simp
          (go_at_call 13; (with_reducible refine (NOld_c _ _ _ _ _ _ _ _ y.2 (HNY.out.later HOZ.out) HSY.out).mono ?_); rintro ee w8 ⟨OA, on, oc, OB, om, od, rfl, hno, ho⟩; (obtain rfl := hno.2.1.len); (obtain rfl := hno.2.2.len); have HNO := Lib.hid hno; clear hno; (replace HOZ := Lib.hid (on_new HOZ.out ho)); clear ho)
          go_wp2_with (fail)
          clear hHeld
          refine hK.out _ _ (KP.out _ HOZ.out) (fun hHeld => ?_)
          clear hK K
          try simp only [Act.put, List.setIfInBounds_toArray, List.set_cons_zero, List.set_cons_succ]
          refine wpAnyL_ready (rs := [18]) (by kernel_rfl) (by kernel_rfl) (by simp) ?_
          refine AllReadyL.cons (o := ?_) ?_ (fun K hK => ?_) AllReadyL.nil
          case refine_2 => (simp only [List.getElem?_cons_succ, List.getElem?_cons_zero]; rfl)
          go_simp
          (go_at_call 12; (with_reducible refine (DSame_eq _ _ _ _ _ _ _ _ _ _ _ _ y.2 HNO.out (HNV.out.later HOZ.out) HSN.out.1 HSN.out.2).mono ?_); rintro ee w9 ⟨rfl, ho⟩; (replace HOZ := Lib.hid (on_new HOZ.out ho)); clear ho)
          go_wp2_with (fail)
          clear hHeld
          refine hK.out _ _ (KP.out _ HOZ.out) (fun hHeld => ?_)
          clear hK K
          try simp only [Act.put, List.setIfInBounds_toArray, List.set_cons_zero, List.set_cons_succ]
          refine take_oneL (i := 19) (d := 107) (oi := ?_) (v := ?_) ?_ hsel (by kernel_rfl) (by kernel_rfl) (fun _ _ _ h => h) ?_ ?_ ?_ (by assumption) ?_
          case refine_3 => (simp only [List.getElem?_cons_succ, List.getElem?_cons_zero]; rfl)
          case refine_4 => rfl
          case refine_5 => rfl
          case refine_6 => (intro w' hSw; (try dsimp only at hSw); go_simp; (try with_reducible rfl))
          simp only [Act.put, List.setIfInBounds_toArray, List.set_cons_zero, List.set_cons_succ]
          refine take_oneL (i := 20) (d := 108) (oi := ?_) (v := ?_) ?_ hsel (by kernel_rfl) (by kernel_rfl) (fun _ _ _ h => h) ?_ ?_ ?_ (by assumption) ?_
          case refine_3 => (simp only [List.getElem?_cons_succ, List.getElem?_cons_zero]; rfl)
          case refine_4 => rfl
          case refine_5 => rfl
          case refine_6 => (intro w' hSw; (try dsimp only at hSw); go_simp; (try with_reducible rfl))
          simp only [Act.put, List.setIfInBounds_toArray, List.set_cons_zero, List.set_cons_succ]
          refine take_oneL (i := 21) (d := 109) (oi := ?_) (v := ?_) ?_ hsel (by kernel_rfl) (by kernel_rfl) (fun _ _ _ h => h) ?_ ?_ ?_ (by assumption) ?_
          case refine_3 => (simp only [List.getElem?_cons_succ, List.getElem?_cons_zero]; rfl)
          case refine_4 => rfl
          case refine_5 => rfl
          case refine_6 => (intro w' hSw; (try dsimp only at hSw); go_simp; (try with_reducible rfl))
          simp only [Act.put, List.setIfInBounds_toArray, List.set_cons_zero, List.set_cons_succ]
          refine take_oneL (i := 22) (d := 110) (oi := ?_) (v := ?_) ?_ hsel (by kernel_rfl) (by kernel_rfl) (fun _ _ _ h => h) ?_ ?_ ?_ (by assumption) ?_
          case refine_3 => (simp only [List.getElem?_cons_succ, List.getElem?_cons_zero]; rfl)
          case refine_4 => rfl
          case refine_5 => rfl
          case refine_6 => (intro w' hSw; (try dsimp only at hSw); go_simp; (try with_reducible rfl))
          simp only [Act.put, List.setIfInBounds_toArray, List.set_cons_zero, List.set_cons_succ]
          refine take_oneL (i := 23) (d := 111) (oi := ?_) (v := ?_) ?_ hsel (by kernel_rfl) (by kernel_rfl) (fun _ _ _ h => h) ?_ ?_ ?_ (by assumption) ?_
          case refine_3 => (simp only [List.getElem?_cons_succ, List.getElem?_cons_zero]; rfl)
          case refine_4 => rfl
          case refine_5 => rfl
          case refine_6 => (intro w' hSw; (try dsimp only at hSw); go_simp; (try with_reducible rfl))
          simp only [Act.put, List.setIfInBounds_toArray, List.set_cons_zero, List.set_cons_succ]
          refine take_oneL (i := 24) (d := 112) (oi := ?_) (v := ?_) ?_ hsel (by kernel_rfl) (by kernel_rfl) (fun _ _ _ h => h) ?_ ?_ ?_ (by assumption) ?_
          case refine_3 => (simp only [List.getElem?_cons_succ, List.getElem?_cons_zero]; rfl)
          case refine_4 => rfl
          case refine_5 => rfl
          case refine_6 => (intro w' hSw; (try dsimp only at hSw); go_simp; (try with_reducible rfl))
          simp only [Act.put, List.setIfInBounds_toArray, List.set_cons_zero, List.set_cons_succ]
          refine wpAnyL_ready (rs := [25]) (by kernel_rfl) (by kernel_rfl) (by simp) ?_
          refine AllReadyL.cons (o := ?_) ?_ (fun K hK => ?_) AllReadyL.nil
          case refine_2 => (simp only [List.getElem?_cons_succ, List.getElem?_cons_zero]; rfl)
          go_simp
          (go_at_call 14; (with_reducible refine (Fits_n _ _ _ _ _ _ _ _ g y.2.leaf false HBF.out (HNY.out.later HOZ.out) (HG.out.later (on_new HOP.out HOZ.out)) HSY.out).mono ?_); rintro ee w10 ⟨rfl, ho⟩; (replace HOZ := Lib.hid (on_new HOZ.out ho)); clear ho)
          go_wp2_with (fail)
          clear hHeld
          refine hK.out _ _ (KP.out _ HOZ.out) (fun hHeld => ?_)
          clear hK K
          try simp only [Act.put, List.setIfInBounds_toArray, List.set_cons_zero, List.set_cons_succ]
          refine take_oneL (i := 26) (d := 114) (oi := ?_) (v := ?_) ?_ hsel (by kernel_rfl) (by kernel_rfl) (fun _ _ _ h => h) ?_ ?_ ?_ (by assumption) ?_
          case refine_3 => (simp only [List.getElem?_cons_succ, List.getElem?_cons_zero]; rfl)
          case refine_4 => rfl
          case refine_5 => rfl
          case refine_6 => (intro w' hSw; (try dsimp only at hSw); go_simp; (try with_reducible rfl))
          simp only [Act.put, List.setIfInBounds_toArray, List.set_cons_zero, List.set_cons_succ]
          refine take_oneL (i := 27) (d := 115) (oi := ?_) (v := ?_) ?_ hsel (by kernel_rfl) (by kernel_rfl) (fun _ _ _ h => h) ?_ ?_ ?_ (by assumption) ?_
          case refine_3 => (simp only [List.getElem?_cons_succ, List.getElem?_cons_zero]; rfl)
          case refine_4 => rfl
          case refine_5 => rfl
          case refine_6 => (intro w' hSw; (try dsimp only at hSw); go_simp; (try with_reducible rfl))
          simp only [Act.put, List.setIfInBounds_toArray, List.set_cons_zero, List.set_cons_succ]
          refine take_oneL (i := 28) (d := 116) (oi := ?_) (v := ?_) ?_ hsel (by kernel_rfl) (by kernel_rfl) (fun _ _ _ h => h) ?_ ?_ ?_ (by assumption) ?_
          case refine_3 => (simp only [List.getElem?_cons_succ, List.getElem?_cons_zero]; rfl)
          case refine_4 => rfl
          case refine_5 => rfl
          case refine_6 => (intro w' hSw; (try dsimp only at hSw); go_simp; (try with_reducible rfl))
          simp only [Act.put, List.setIfInBounds_toArray, List.set_cons_zero, List.set_cons_succ]
          refine take_oneL (i := 29) (d := 117) (oi := ?_) (v := ?_) ?_ hsel (by kernel_rfl) (by kernel_rfl) (fun _ _ _ h => h) ?_ ?_ ?_ (by assumption) ?_
          case refine_3 => (simp only [List.getElem?_cons_succ, List.getElem?_cons_zero]; rfl)
          case refine_4 => rfl
          case refine_5 => rfl
          case refine_6 => (intro w' hSw; (try dsimp only at hSw); go_simp; (try with_reducible rfl))
          simp only [Act.put, List.setIfInBounds_toArray, List.set_cons_zero, List.set_cons_succ]
          refine take_oneL (i := 30) (d := 118) (oi := ?_) (v := ?_) ?_ hsel (by kernel_rfl) (by kernel_rfl) (fun _ _ _ h => h) ?_ ?_ ?_ (by assumption) ?_
          case refine_3 => (simp only [List.getElem?_cons_succ, List.getElem?_cons_zero]; rfl)
          case refine_4 => rfl
          case refine_5 => rfl
          case refine_6 => (intro w' hSw; (try dsimp only at hSw); go_simp; (try with_reducible rfl))
          simp only [Act.put, List.setIfInBounds_toArray, List.set_cons_zero, List.set_cons_succ]
          refine take_oneL (i := 31) (d := 119) (oi := ?_) (v := ?_) ?_ hsel (by kernel_rfl) (by kernel_rfl) (fun _ _ _ h => h) ?_ ?_ ?_ (by assumption) ?_
          case refine_3 => (simp only [List.getElem?_cons_succ, List.getElem?_cons_zero]; rfl)
          case refine_4 => rfl
          case refine_5 => rfl
          case refine_6 => (intro w' hSw; (try dsimp only at hSw); go_simp; (try with_reducible rfl))
          simp only [Act.put, List.setIfInBounds_toArray, List.set_cons_zero, List.set_cons_succ]
          refine take_oneL (i := 32) (d := 120) (oi := ?_) (v := ?_) ?_ hsel (by kernel_rfl) (by kernel_rfl) (fun _ _ _ h => h) ?_ ?_ ?_ (by assumption) ?_
          case refine_3 => (simp only [List.getElem?_cons_succ, List.getElem?_cons_zero]; rfl)
          case refine_4 => rfl
          case refine_5 => rfl
          case refine_6 => (intro w' hSw; (try dsimp only at hSw); go_simp; (try with_reducible rfl))
          simp only [Act.put, List.setIfInBounds_toArray, List.set_cons_zero, List.set_cons_succ]
          refine take_oneL (i := 33) (d := 121) (oi := ?_) (v := ?_) ?_ hsel (by kernel_rfl) (by kernel_rfl) (fun _ _ _ h => h) ?_ ?_ ?_ (by assumption) ?_
          case refine_3 => (simp only [List.getElem?_cons_succ, List.getElem?_cons_zero]; rfl)
          case refine_4 => rfl
          case refine_5 => rfl
          case refine_6 => (intro w' hSw; (try dsimp only at hSw); go_simp; (try with_reducible rfl))
          simp only [Act.put, List.setIfInBounds_toArray, List.set_cons_zero, List.set_cons_succ]
          refine take_oneL (i := 34) (d := 122) (oi := ?_) (v := ?_) ?_ hsel (by kernel_rfl) (by kernel_rfl) (fun _ _ _ h => h) ?_ ?_ ?_ (by assumption) ?_
          case refine_3 => (simp only [List.getElem?_cons_succ, List.getElem?_cons_zero]; rfl)
          case refine_4 => rfl
          case refine_5 => rfl
          case refine_6 => (intro w' hSw; (try dsimp only at hSw); go_simp; (try with_reducible rfl))
          simp only [Act.put, List.setIfInBounds_toArray, List.set_cons_zero, List.set_cons_succ]
          refine take_oneL (i := 35) (d := 123) (oi := ?_) (v := ?_) ?_ hsel (by kernel_rfl) (by kernel_rfl) (fun _ _ _ h => h) ?_ ?_ ?_ (by assumption) ?_
          case refine_3 => (simp only [List.getElem?_cons_succ, List.getElem?_cons_zero]; rfl)
          case refine_4 => rfl
          case refine_5 => rfl
          case refine_6 => (intro w' hSw; (try dsimp only at hSw); go_simp; (try with_reducible rfl))
          simp only [Act.put, List.setIfInBounds_toArray, List.set_cons_zero, List.set_cons_succ]
          refine take_oneL (i := 36) (d := 124) (oi := ?_) (v := ?_) ?_ hsel (by kernel_rfl) (by kernel_rfl) (fun _ _ _ h => h) ?_ ?_ ?_ (by assumption) ?_
          case refine_3 => (simp only [List.getElem?_cons_succ, List.getElem?_cons_zero]; rfl)
          case refine_4 => rfl
          case refine_5 => rfl
          case refine_6 => (intro w' hSw; (try dsimp only at hSw); go_simp; (try with_reducible rfl))
          simp only [Act.put, List.setIfInBounds_toArray, List.set_cons_zero, List.set_cons_succ]
          refine take_oneL (i := 37) (d := 125) (oi := ?_) (v := ?_) ?_ hsel (by kernel_rfl) (by kernel_rfl) (fun _ _ _ h => h) ?_ ?_ ?_ (by assumption) ?_
          case refine_3 => (simp only [List.getElem?_cons_succ, List.getElem?_cons_zero]; rfl)
          case refine_4 => rfl
          case refine_5 => rfl
          case refine_6 => (intro w' hSw; (try dsimp only at hSw); go_simp; (try with_reducible rfl))
          simp only [Act.put, List.setIfInBounds_toArray, List.set_cons_zero, List.set_cons_succ]
          refine take_oneL (i := 38) (d := 126) (oi := ?_) (v := ?_) ?_ hsel (by kernel_rfl) (by kernel_rfl) (fun _ _ _ h => h) ?_ ?_ ?_ (by assumption) ?_
          case refine_3 => (simp only [List.getElem?_cons_succ, List.getElem?_cons_zero]; rfl)
          case refine_4 => rfl
          case refine_5 => rfl
          case refine_6 => (intro w' hSw; (try dsimp only at hSw); go_simp; (try with_reducible rfl))
          simp only [Act.put, List.setIfInBounds_toArray, List.set_cons_zero, List.set_cons_succ]
          refine take_oneL (i := 39) (d := 127) (oi := ?_) (v := ?_) ?_ hsel (by kernel_rfl) (by kernel_rfl) (fun _ _ _ h => h) ?_ ?_ ?_ (by assumption) ?_
          case refine_3 => (simp only [List.getElem?_cons_succ, List.getElem?_cons_zero]; rfl)
          case refine_4 => rfl
          case refine_5 => rfl
          case refine_6 => (intro w' hSw; (try dsimp only at hSw); go_simp; (try with_reducible rfl))
          simp only [Act.put, List.setIfInBounds_toArray, List.set_cons_zero, List.set_cons_succ]
          refine wpAnyL_done (by kernel_rfl) (by kernel_rfl) ?_ _
          clear hsel hHeld
          obtain ⟨g0, g1, g2⟩ := (HAP.out.1.later HOZ.out).tri
          obtain ⟨e0, e1, e2, e3, _⟩ := KP.out _ HOZ.out
          by_cases hk0 : 0 < k
          · have hk0i : (0 : Int) < (k : Int) := by omega
            have HJ : Hid (∀ W, Only (wp.heap.size ≤ ·) wp W → Calls Tryd.prog 15 #[.agg #[.bool lf, .slice A' n' c', .slice B' m' d'], .agg #[.bool y.2.leaf, .slice Q3 y.2.its.length q3, .slice R3 y.2.kds.length r3], .slice P3 y.1.length p3] W (GaveN W (jn l (k + 1)))) := Lib.hid fun W hW => by
              rw [jn_succ hk0 HYK.out]
              have hj := jn_len (k := k) hl120 HALL.out
              have hn1 := HAP.out.2.1.nod.now.2.1.len
              have hn2 := HAP.out.2.1.nod.now.2.2.len
              have hs1 := HSY.out.1
              have hs2 := HSY.out.2.1
              exact Join_n W lf y.2.leaf _ _ _ _ _ _ _ _ _ _ _ _ _ (jn l k) y.2 y.1 ((HAP.out.2.1.later hW).nod.now) (HNY.out.later hW) (by omega) (by omega) (by omega) (by omega) (HSK.out.later hW) (by have := HKL.out; omega)
            go_upto_region 15 with (go_at_call 15; (with_reducible refine (HJ.out _ HOZ.out).mono ?_); rintro ee w20 ⟨JA, jo, jc, JB, jm, jd, rfl, hj, ho⟩; have HNJ := Lib.hid hj; clear hj g0 g1 g2; (replace HOZ := Lib.hid (on_new HOZ.out ho)); clear ho; (obtain ⟨g0, g1, g2⟩ := (HAP.out.1.later HOZ.out).tri); (obtain ⟨f0, f1, f2⟩ := (HAP.out.1.later HOZ.out).melt3))
            have HB8 := Lib.hid (HAP.out.1.later HOZ.out)
            have HO8 := Lib.hid (on_new HAP.out.2.2 HOZ.out)
            obtain ⟨W6, hW6⟩ : ∃ W6, W6 = (((w20.setCell ⟨W4.heap.size, 0, none⟩ (.bool (jn l (k + 1)).leaf)).setCell ⟨W4.heap.size, 1, none⟩ (.slice JA jo jc)).setCell ⟨W4.heap.size, 2, none⟩ (.slice JB jm jd)) := ⟨_, rfl⟩
            have hB6 : Blk W6 W4.heap.size 34 [.bool (jn l (k + 1)).leaf, .slice JA jo jc, .slice JB jm jd] := by rw [hW6]; exact ((HB8.out.set_ 0 _).set_ 1 _).set_ 2 _
            have hO6 : Only (· = W4.heap.size) w20 W6 := by rw [hW6]; exact (((Only.refl (· = W4.heap.size) _).setCell (p := ⟨W4.heap.size, 0, none⟩) rfl _).setCell (p := ⟨W4.heap.size, 1, none⟩) rfl _).setCell (p := ⟨W4.heap.size, 2, none⟩) rfl _
            have hS6 := (nod_free HB8.out HNJ.out).step (hO6.mono fun _ h => .inl h) fun k hk => .inl hk
            rw [← hW6]
            have HX6 : Hid (Blk W6 W4.heap.size 34 [.bool (jn l (k + 1)).leaf, .slice JA jo jc, .slice JB jm jd] ∧ SNod (· = W4.heap.size) W6 (jn l (k + 1)) (jn l (k + 1)).leaf (.slice JA jo jc) (.slice JB jm jd) ∧ Only (W4.heap.size ≤ ·) W4 W6) := Lib.hid ⟨hB6, hS6, HO8.out.trans (hO6.mono fun j hj => by omega)⟩
            clear hW6 hB6 hO6 hS6 g0 g1 g2 f0 f1 f2 e0 e1 e2 e3
            go_wp2
            go_roundw
            case rel => exact ⟨k + 1, _, _, _, _, _, _, _, by omega, by go_num, HX6⟩
            case measure => simp [intOf]; omega
          · have hk0i : ¬ (0 : Int) < (k : Int) := by omega
            obtain rfl : k = 0 := by omega
            have HX6 : Hid (Blk _ W4.heap.size 34 [.bool lf, .slice A' n' c', .slice B' m' d'] ∧ SNod (· = W4.heap.size) _ (jn l (0 + 1)) lf (.slice A' n' c') (.slice B' m' d') ∧ Only (W4.heap.size ≤ ·) W4 _) := Lib.hid ⟨HAP.out.1.later HOZ.out, by rw [(jn_zero HYK.out).2, ← (jn_zero HYK.out).1]; exact HAP.out.2.1.later HOZ.out, on_new HAP.out.2.2 HOZ.out⟩
            clear g0 g1 g2 e0 e1 e2 e3
            go_wp2
            go_roundw
            case rel => exact ⟨0 + 1, _, _, _, _, _, _, _, by omega, by go_num, HX6⟩
            case measure => simp [intOf]; omega
        · skip
          refine wp_region_list (B := [false, false, false, false, false, false, false, false, false, false, false, false, false, false, false, false, false, false, false, false, false, false, false, false, false, false, false, false, false, false, false, false, false, false, false, false, false, false, false, false]) (S := (fun W => W.cell? ⟨wr.heap.size, 0, none⟩ = some (.slice P3 y.1.length p3) ∧ W.cell? ⟨wr.heap.size, 1, none⟩ = some (.bool y.2.leaf) ∧ W.cell? ⟨wr.heap.size, 2, none⟩ = some (.slice Q3 y.2.its.length q3) ∧ W.cell? ⟨wr.heap.size, 3, none⟩ = some (.slice R3 y.2.kds.length r3) ∧ W.cell? ⟨vb, vo + k * 4, none⟩ = some (.slice V1 y.1.length v1) ∧ W.cell? ⟨vb, vo + k * 4 + 1, none⟩ = some (.bool y.2.leaf) ∧ W.cell? ⟨vb, vo + k * 4 + 2, none⟩ = some (.slice V2 y.2.its.length v2) ∧ W.cell? ⟨vb, vo + k * 4 + 3, none⟩ = some (.slice V3 y.2.kds.length v3))) (by kernel_rfl) (by kernel_rfl) (by kernel_rfl) (KP.out _ HOZ.out) (fun hsel hHeld => ?_)
          obtain ⟨wq, hwq⟩ : ∃ wq, wq = wp.drew := ⟨_, rfl⟩
          rw [← hwq] at HOZ hHeld
          rw [← hwq]
          clear hwq
          refine take_oneL (i := 0) (d := 88) (oi := ?_) (v := ?_) ?_ hsel (by kernel_rfl) (by kernel_rfl) (fun _ _ _ h => h) ?_ ?_ ?_ (by assumption) ?_
          case refine_3 => (simp only [List.getElem?_cons_zero]; rfl)
          case refine_4 => rfl
          case refine_5 => rfl
          case refine_6 => (intro w' hSw; (try dsimp only at hSw); go_simp; (try with_reducible rfl))
          simp only [Act.put, List.setIfInBounds_toArray, List.set_cons_zero, List.set_cons_succ]
          refine take_oneL (i := 1) (d := 89) (oi := ?_) (v := ?_) ?_ hsel (by kernel_rfl) (by kernel_rfl) (fun _ _ _ h => h) ?_ ?_ ?_ (by assumption) ?_
          case refine_3 => (simp only [List.getElem?_cons_succ, List.getElem?_cons_zero]; rfl)
          case refine_4 => rfl
          case refine_5 => rfl
          case refine_6 => (intro w' hSw; (try dsimp only at hSw); go_simp; (try with_reducible rfl))
          simp only [Act.put, List.setIfInBounds_toArray, List.set_cons_zero, List.set_cons_succ]
          refine take_oneL (i := 2) (d := 90) (oi := ?_) (v := ?_) ?_ hsel (by kernel_rfl) (by kernel_rfl) (fun _ _ _ h => h) ?_ ?_ ?_ (by assumption) ?_
          case refine_3 => (simp only [List.getElem?_cons_succ, List.getElem?_cons_zero]; rfl)
          case refine_4 => rfl
          case refine_5 => rfl
          case refine_6 => (intro w' hSw; (try dsimp only at hSw); go_simp; (try with_reducible rfl))
          simp only [Act.put, List.setIfInBounds_toArray, List.set_cons_zero, List.set_cons_succ]
          refine take_oneL (i := 3) (d := 91) (oi := ?_) (v := ?_) ?_ hsel (by kernel_rfl) (by kernel_rfl) (fun _ _ _ h => h) ?_ ?_ ?_ (by assumption) ?_
          case refine_3 => (simp only [List.getElem?_cons_succ, List.getElem?_cons_zero]; rfl)
          case refine_4 => rfl
          case refine_5 => rfl
          case refine_6 => (intro w' hSw; (try dsimp only at hSw); go_simp; (try with_reducible rfl))
          simp only [Act.put, List.setIfInBounds_toArray, List.set_cons_zero, List.set_cons_succ]
          refine take_oneL (i := 4) (d := 92) (oi := ?_) (v := ?_) ?_ hsel (by kernel_rfl) (by kernel_rfl) (fun _ _ _ h => h) ?_ ?_ ?_ (by assumption) ?_
          case refine_3 => (simp only [List.getElem?_cons_succ, List.getElem?_cons_zero]; rfl)
          case refine_4 => rfl
          case refine_5 => rfl
          case refine_6 => (intro w' hSw; (try dsimp only at hSw); go_simp; (try with_reducible rfl))
          simp only [Act.put, List.setIfInBounds_toArray, List.set_cons_zero, List.set_cons_succ]
          refine take_oneL (i := 5) (d := 93) (oi := ?_) (v := ?_) ?_ hsel (by kernel_rfl) (by kernel_rfl) (fun _ _ _ h => h) ?_ ?_ ?_ (by assumption) ?_
          case refine_3 => (simp only [List.getElem?_cons_succ, List.getElem?_cons_zero]; rfl)
          case refine_4 => rfl
          case refine_5 => rfl
          case refine_6 => (intro w' hSw; (try dsimp only at hSw); go_simp; (try with_reducible rfl))
          simp only [Act.put, List.setIfInBounds_toArray, List.set_cons_zero, List.set_cons_succ]
          refine take_oneL (i := 6) (d := 94) (oi := ?_) (v := ?_) ?_ hsel (by kernel_rfl) (by kernel_rfl) (fun _ _ _ h => h) ?_ ?_ ?_ (by assumption) ?_
          case refine_3 => (simp only [List.getElem?_cons_succ, List.getElem?_cons_zero]; rfl)
          case refine_4 => rfl
          case refine_5 => rfl
          case refine_6 => (intro w' hSw; (try dsimp only at hSw); go_simp; (try with_reducible rfl))
          simp only [Act.put, List.setIfInBounds_toArray, List.set_cons_zero, List.set_cons_succ]
          refine wpAnyL_ready (rs := [7]) (by kernel_rfl) (by kernel_rfl) (by simp) ?_
          refine AllReadyL.cons (o := ?_) ?_ (fun K hK => ?_) AllReadyL.nil
          case refine_2 => (simp only [List.getElem?_cons_succ, List.getElem?_cons_zero]; rfl)
          go_simp
          (go_at_call 11; (with_reducible refine (Equal_b _ _ _ y.1 y.1 true (HSK.out.later HOZ.out) (HSV.out.later HOZ.out) (by simp)).mono ?_); rintro ee w7 ⟨rfl, rfl⟩)
          go_wp2_with (fail)
          clear hHeld
          refine hK.out _ _ (KP.out _ HOZ.out) (fun hHeld => ?_)
          clear hK K
          try simp only [Act.put, List.setIfInBounds_toArray, List.set_cons_zero, List.set_cons_succ]
          refine take_oneL (i := 8) (d := 96) (oi := ?_) (v := ?_) ?_ hsel (by kernel_rfl) (by kernel_rfl) (fun _ _ _ h => h) ?_ ?_ ?_ (by assumption) ?_
          case refine_3 => (simp only [List.getElem?_cons_succ, List.getElem?_cons_zero]; rfl)
          case refine_4 => rfl
          case refine_5 => rfl
          case refine_6 => (intro w' hSw; (try dsimp only at hSw); go_simp; (try with_reducible rfl))
          simp only [Act.put, List.setIfInBounds_toArray, List.set_cons_zero, List.set_cons_succ]
          refine take_oneL (i := 9) (d := 97) (oi := ?_) (v := ?_) ?_ hsel (by kernel_rfl) (by kernel_rfl) (fun _ _ _ h => h) ?_ ?_ ?_ (by assumption) ?_
          case refine_3 => (simp only [List.getElem?_cons_succ, List.getElem?_cons_zero]; rfl)
          case refine_4 => rfl
          case refine_5 => rfl
          case refine_6 => (intro w' hSw; (try dsimp only at hSw); go_simp; (try with_reducible rfl))
          simp only [Act.put, List.setIfInBounds_toArray, List.set_cons_zero, List.set_cons_succ]
          refine take_oneL (i := 10) (d := 98) (oi := ?_) (v := ?_) ?_ hsel (by kernel_rfl) (by kernel_rfl) (fun _ _ _ h => h) ?_ ?_ ?_ (by assumption) ?_
          case refine_3 => (simp only [List.getElem?_cons_succ, List.getElem?_cons_zero]; rfl)
          case refine_4 => rfl
          case refine_5 => rfl
          case refine_6 => (intro w' hSw; (try dsimp only at hSw); go_simp; (try with_reducible rfl))
          simp only [Act.put, List.setIfInBounds_toArray, List.set_cons_zero, List.set_cons_succ]
          refine take_oneL (i := 11) (d := 99) (oi := ?_) (v := ?_) ?_ hsel (by kernel_rfl) (by kernel_rfl) (fun _ _ _ h => h) ?_ ?_ ?_ (by assumption) ?_
          case refine_3 => (simp only [List.getElem?_cons_succ, List.getElem?_cons_zero]; rfl)
          case refine_4 => rfl
          case refine_5 => rfl
          case refine_6 => (intro w' hSw; (try dsimp only at hSw); go_simp; (try with_reducible rfl))
          simp only [Act.put, List.setIfInBounds_toArray, List.set_cons_zero, List.set_cons_succ]
          refine take_oneL (i := 13) (d := 101) (oi := ?_) (v := ?_) ?_ hsel (by kernel_rfl) (by kernel_rfl) (fun _ _ _ h => h) ?_ ?_ ?_ (by assumption) ?_
          case refine_3 => (simp only [List.getElem?_cons_succ, List.getElem?_cons_zero]; rfl)
          case refine_4 => rfl
          case refine_5 => rfl
          case refine_6 => (intro w' hSw; (try dsimp only at hSw); go_simp; (try with_reducible rfl))
          simp only [Act.put, List.setIfInBounds_toArray, List.set_cons_zero, List.set_cons_succ]
          refine take_oneL (i := 14) (d := 102) (oi := ?_) (v := ?_) ?_ hsel (by kernel_rfl) (by kernel_rfl) (fun _ _ _ h => h) ?_ ?_ ?_ (by assumption) ?_
          case refine_3 => (simp only [List.getElem?_cons_succ, List.getElem?_cons_zero]; rfl)
          case refine_4 => rfl
          case refine_5 => rfl
          case refine_6 => (intro w' hSw; (try dsimp only at hSw); go_simp; (try with_reducible rfl))
          simp only [Act.put, List.setIfInBounds_toArray, List.set_cons_zero, List.set_cons_succ]
          refine take_oneL (i := 15) (d := 103) (oi := ?_) (v := ?_) ?_ hsel (by kernel_rfl) (by kernel_rfl) (fun _ _ _ h => h) ?_ ?_ ?_ (by assumption) ?_
          case refine_3 => (simp only [List.getElem?_cons_succ, List.getElem?_cons_zero]; rfl)
          case refine_4 => rfl
          case refine_5 => rfl
          case refine_6 => (intro w' hSw; (try dsimp only at hSw); go_simp; (try with_reducible rfl))
          simp only [Act.put, List.setIfInBounds_toArray, List.set_cons_zero, List.set_cons_succ]
          refine take_oneL (i := 16) (d := 104) (oi := ?_) (v := ?_) ?_ hsel (by kernel_rfl) (by kernel_rfl) (fun _ _ _ h => h) ?_ ?_ ?_ (by assumption) ?_
          case refine_3 => (simp only [List.getElem?_cons_succ, List.getElem?_cons_zero]; rfl)
          case refine_4 => rfl
          case refine_5 => rfl
          case refine_6 => (intro w' hSw; (try dsimp only at hSw); go_simp; (try with_reducible rfl))
          simp only [Act.put, List.setIfInBounds_toArray, List.set_cons_zero, List.set_cons_succ]
          refine take_oneL (i := 17) (d := 105) (oi := ?_) (v := ?_) ?_ hsel (by kernel_rfl) (by kernel_rfl) (fun _ _ _ h => h) ?_ ?_ ?_ (by assumption) ?_
          case refine_3 => (simp only [List.getElem?_cons_succ, List.getElem?_cons_zero]; rfl)
          case refine_4 => rfl
          case refine_5 => rfl
          case refine_6 => (intro w' hSw; (try dsimp only at hSw); go_simp; (try with_reducible rfl))
          simp only [Act.put, List.setIfInBounds_toArray, List.set_cons_zero, List.set_cons_succ]
          refine wpAnyL_ready (rs := [12]) (by kernel_rfl) (by kernel_rfl) (by simp) ?_
          refine AllReadyL.cons (o := ?_) ?_ (fun K hK => ?_) AllReadyL.nil
          case refine_2 => (simp only [List.getElem?_cons_succ, List.getElem?_cons_zero]; rfl)
          go_simp
          (go_at_call 13; (with_reducible refine (NOld_c _ _ _ _ _ _ _ _ y.2 (HNY.out.later HOZ.out) HSY.out).mono ?_); rintro ee w8 ⟨OA, on, oc, OB, om, od, rfl, hno, ho⟩; (obtain rfl := hno.2.1.len); (obtain rfl := hno.2.2.len); have HNO := Lib.hid hno; clear hno; (replace HOZ := Lib.hid (on_new HOZ.out ho)); clear ho)
          go_wp2_with (fail)
          clear hHeld
          refine hK.out _ _ (KP.out _ HOZ.out) (fun hHeld => ?_)
          clear hK K
          try simp only [Act.put, List.setIfInBounds_toArray, List.set_cons_zero, List.set_cons_succ]
          refine wpAnyL_ready (rs := [18]) (by kernel_rfl) (by kernel_rfl) (by simp) ?_
          refine AllReadyL.cons (o := ?_) ?_ (fun K hK => ?_) AllReadyL.nil
          case refine_2 => (simp only [List.getElem?_cons_succ, List.getElem?_cons_zero]; rfl)
          go_simp
          (go_at_call 12; (with_reducible refine (DSame_eq _ _ _ _ _ _ _ _ _ _ _ _ y.2 HNO.out (HNV.out.later HOZ.out) HSN.out.1 HSN.out.2).mono ?_); rintro ee w9 ⟨rfl, ho⟩; (replace HOZ := Lib.hid (on_new HOZ.out ho)); clear ho)
          go_wp2_with (fail)
          clear hHeld
          refine hK.out _ _ (KP.out _ HOZ.out) (fun hHeld => ?_)
          clear hK K
          try simp only [Act.put, List.setIfInBounds_toArray, List.set_cons_zero, List.set_cons_succ]
          refine take_oneL (i := 19) (d := 107) (oi := ?_) (v := ?_) ?_ hsel (by kernel_rfl) (by kernel_rfl) (fun _ _ _ h => h) ?_ ?_ ?_ (by assumption) ?_
          case refine_3 => (simp only [List.getElem?_cons_succ, List.getElem?_cons_zero]; rfl)
          case refine_4 => rfl
          case refine_5 => rfl
          case refine_6 => (intro w' hSw; (try dsimp only at hSw); go_simp; (try with_reducible rfl))
          simp only [Act.put, List.setIfInBounds_toArray, List.set_cons_zero, List.set_cons_succ]
          refine take_oneL (i := 20) (d := 108) (oi := ?_) (v := ?_) ?_ hsel (by kernel_rfl) (by kernel_rfl) (fun _ _ _ h => h) ?_ ?_ ?_ (by assumption) ?_
          case refine_3 => (simp only [List.getElem?_cons_succ, List.getElem?_cons_zero]; rfl)
          case refine_4 => rfl
          case refine_5 => rfl
          case refine_6 => (intro w' hSw; (try dsimp only at hSw); go_simp; (try with_reducible rfl))
          simp only [Act.put, List.setIfInBounds_toArray, List.set_cons_zero, List.set_cons_succ]
          refine take_oneL (i := 21) (d := 109) (oi := ?_) (v := ?_) ?_ hsel (by kernel_rfl) (by kernel_rfl) (fun _ _ _ h => h) ?_ ?_ ?_ (by assumption) ?_
          case refine_3 => (simp only [List.getElem?_cons_succ, List.getElem?_cons_zero]; rfl)
          case refine_4 => rfl
          case refine_5 => rfl
          case refine_6 => (intro w' hSw; (try dsimp only at hSw); go_simp; (try with_reducible rfl))
          simp only [Act.put, List.setIfInBounds_toArray, List.set_cons_zero, List.set_cons_succ]
          refine take_oneL (i := 22) (d := 110) (oi := ?_) (v := ?_) ?_ hsel (by kernel_rfl) (by kernel_rfl) (fun _ _ _ h => h) ?_ ?_ ?_ (by assumption) ?_
          case refine_3 => (simp only [List.getElem?_cons_succ, List.getElem?_cons_zero]; rfl)
          case refine_4 => rfl
          case refine_5 => rfl
          case refine_6 => (intro w' hSw; (try dsimp only at hSw); go_simp; (try with_reducible rfl))
          simp only [Act.put, List.setIfInBounds_toArray, List.set_cons_zero, List.set_cons_succ]
          refine take_oneL (i := 23) (d := 111) (oi := ?_) (v := ?_) ?_ hsel (by kernel_rfl) (by kernel_rfl) (fun _ _ _ h => h) ?_ ?_ ?_ (by assumption) ?_
          case refine_3 => (simp only [List.getElem?_cons_succ, List.getElem?_cons_zero]; rfl)
          case refine_4 => rfl
          case refine_5 => rfl
          case refine_6 => (intro w' hSw; (try dsimp only at hSw); go_simp; (try with_reducible rfl))
          simp only [Act.put, List.setIfInBounds_toArray, List.set_cons_zero, List.set_cons_succ]
          refine take_oneL (i := 24) (d := 112) (oi := ?_) (v := ?_) ?_ hsel (by kernel_rfl) (by kernel_rfl) (fun _ _ _ h => h) ?_ ?_ ?_ (by assumption) ?_
          case refine_3 => (simp only [List.getElem?_cons_succ, List.getElem?_cons_zero]; rfl)
          case refine_4 => rfl
          case refine_5 => rfl
          case refine_6 => (intro w' hSw; (try dsimp only at hSw); go_simp; (try with_reducible rfl))
          simp only [Act.put, List.setIfInBounds_toArray, List.set_cons_zero, List.set_cons_succ]
          refine wpAnyL_ready (rs := [25]) (by kernel_rfl) (by kernel_rfl) (by simp) ?_
          refine AllReadyL.cons (o := ?_) ?_ (fun K hK => ?_) AllReadyL.nil
          case refine_2 => (simp only [List.getElem?_cons_succ, List.getElem?_cons_zero]; rfl)
          go_simp
          (go_at_call 14; (with_reducible refine (Fits_n _ _ _ _ _ _ _ _ g y.2.leaf true HBF.out (HNY.out.later HOZ.out) (HG.out.later (on_new HOP.out HOZ.out)) HSY.out).mono ?_); rintro ee w10 ⟨rfl, ho⟩; (replace HOZ := Lib.hid (on_new HOZ.out ho)); clear ho)
          go_wp2_with (fail)
          clear hHeld
          refine hK.out _ _ (KP.out _ HOZ.out) (fun hHeld => ?_)
          clear hK K
          try simp only [Act.put, List.setIfInBounds_toArray, List.set_cons_zero, List.set_cons_succ]
          refine take_oneL (i := 26) (d := 114) (oi := ?_) (v := ?_) ?_ hsel (by kernel_rfl) (by kernel_rfl) (fun _ _ _ h => h) ?_ ?_ ?_ (by assumption) ?_
          case refine_3 => (simp only [List.getElem?_cons_succ, List.getElem?_cons_zero]; rfl)
          case refine_4 => rfl
          case refine_5 => rfl
          case refine_6 => (intro w' hSw; (try dsimp only at hSw); go_simp; (try with_reducible rfl))
          simp only [Act.put, List.setIfInBounds_toArray, List.set_cons_zero, List.set_cons_succ]
          refine take_oneL (i := 27) (d := 115) (oi := ?_) (v := ?_) ?_ hsel (by kernel_rfl) (by kernel_rfl) (fun _ _ _ h => h) ?_ ?_ ?_ (by assumption) ?_
          case refine_3 => (simp only [List.getElem?_cons_succ, List.getElem?_cons_zero]; rfl)
          case refine_4 => rfl
          case refine_5 => rfl
          case refine_6 => (intro w' hSw; (try dsimp only at hSw); go_simp; (try with_reducible rfl))
          simp only [Act.put, List.setIfInBounds_toArray, List.set_cons_zero, List.set_cons_succ]
          refine take_skipL (i := 28) (d := 116) (oi := ?_) ?_ hsel (by kernel_rfl) (by kernel_rfl) (fun _ _ _ h => h) ?_ ?_ (by assumption) ?_
          case refine_2 => (simp only [List.getElem?_cons_succ, List.getElem?_cons_zero]; rfl)
          case refine_3 => rfl
          case refine_4 => rfl
          simp only [Act.put, List.setIfInBounds_toArray, List.set_cons_zero, List.set_cons_succ]
          refine take_skipL (i := 29) (d := 117) (oi := ?_) ?_ hsel (by kernel_rfl) (by kernel_rfl) (fun _ _ _ h => h) ?_ ?_ (by assumption) ?_
          case refine_2 => (simp only [List.getElem?_cons_succ, List.getElem?_cons_zero]; rfl)
          case refine_3 => rfl
          case refine_4 => rfl
          simp only [Act.put, List.setIfInBounds_toArray, List.set_cons_zero, List.set_cons_succ]
          refine take_skipL (i := 30) (d := 118) (oi := ?_) ?_ hsel (by kernel_rfl) (by kernel_rfl) (fun _ _ _ h => h) ?_ ?_ (by assumption) ?_
          case refine_2 => (simp only [List.getElem?_cons_succ, List.getElem?_cons_zero]; rfl)
          case refine_3 => rfl
          case refine_4 => rfl
          simp only [Act.put, List.setIfInBounds_toArray, List.set_cons_zero, List.set_cons_succ]
          refine take_skipL (i := 31) (d := 119) (oi := ?_) ?_ hsel (by kernel_rfl) (by kernel_rfl) (fun _ _ _ h => h) ?_ ?_ (by assumption) ?_
          case refine_2 => (simp only [List.getElem?_cons_succ, List.getElem?_cons_zero]; rfl)
          case refine_3 => rfl
          case refine_4 => rfl
          simp only [Act.put, List.setIfInBounds_toArray, List.set_cons_zero, List.set_cons_succ]
          refine take_skipL (i := 32) (d := 120) (oi := ?_) ?_ hsel (by kernel_rfl) (by kernel_rfl) (fun _ _ _ h => h) ?_ ?_ (by assumption) ?_
          case refine_2 => (simp only [List.getElem?_cons_succ, List.getElem?_cons_zero]; rfl)
          case refine_3 => rfl
          case refine_4 => rfl
          simp only [Act.put, List.setIfInBounds_toArray, List.set_cons_zero, List.set_cons_succ]
          refine take_skipL (i := 33) (d := 121) (oi := ?_) ?_ hsel (by kernel_rfl) (by kernel_rfl) (fun _ _ _ h => h) ?_ ?_ (by assumption) ?_
          case refine_2 => (simp only [List.getElem?_cons_succ, List.getElem?_cons_zero]; rfl)
          case refine_3 => rfl
          case refine_4 => rfl
          simp only [Act.put, List.setIfInBounds_toArray, List.set_cons_zero, List.set_cons_succ]
          refine take_skipL (i := 34) (d := 122) (oi := ?_) ?_ hsel (by kernel_rfl) (by kernel_rfl) (fun _ _ _ h => h) ?_ ?_ (by assumption) ?_
          case refine_2 => (simp only [List.getElem?_cons_succ, List.getElem?_cons_zero]; rfl)
          case refine_3 => rfl
          case refine_4 => rfl
          simp only [Act.put, List.setIfInBounds_toArray, List.set_cons_zero, List.set_cons_succ]
          refine take_skipL (i := 35) (d := 123) (oi := ?_) ?_ hsel (by kernel_rfl) (by kernel_rfl) (fun _ _ _ h => h) ?_ ?_ (by assumption) ?_
          case refine_2 => (simp only [List.getElem?_cons_succ, List.getElem?_cons_zero]; rfl)
          case refine_3 => rfl
          case refine_4 => rfl
          simp only [Act.put, List.setIfInBounds_toArray, List.set_cons_zero, List.set_cons_succ]
          refine take_skipL (i := 36) (d := 124) (oi := ?_) ?_ hsel (by kernel_rfl) (by kernel_rfl) (fun _ _ _ h => h) ?_ ?_ (by assumption) ?_
          case refine_2 => (simp only [List.getElem?_cons_succ, List.getElem?_cons_zero]; rfl)
          case refine_3 => rfl
          case refine_4 => rfl
          simp only [Act.put, List.setIfInBounds_toArray, List.set_cons_zero, List.set_cons_succ]
          refine take_skipL (i := 37) (d := 125) (oi := ?_) ?_ hsel (by kernel_rfl) (by kernel_rfl) (fun _ _ _ h => h) ?_ ?_ (by assumption) ?_
          case refine_2 => (simp only [List.getElem?_cons_succ, List.getElem?_cons_zero]; rfl)
          case refine_3 => rfl
          case refine_4 => rfl
          simp only [Act.put, List.setIfInBounds_toArray, List.set_cons_zero, List.set_cons_succ]
          refine take_oneL (i := 38) (d := 126) (oi := ?_) (v := ?_) ?_ hsel (by kernel_rfl) (by kernel_rfl) (fun _ _ _ h => h) ?_ ?_ ?_ (by assumption) ?_
          case refine_3 => (simp only [List.getElem?_cons_succ, List.getElem?_cons_zero]; rfl)
          case refine_4 => rfl
          case refine_5 => rfl
          case refine_6 => (intro w' hSw; (try dsimp only at hSw); go_simp; (try with_reducible rfl))
          simp only [Act.put, List.setIfInBounds_toArray, List.set_cons_zero, List.set_cons_succ]
          refine take_oneL (i := 39) (d := 127) (oi := ?_) (v := ?_) ?_ hsel (by kernel_rfl) (by kernel_rfl) (fun _ _ _ h => h) ?_ ?_ ?_ (by assumption) ?_
          case refine_3 => (simp only [List.getElem?_cons_succ, List.getElem?_cons_zero]; rfl)
          case refine_4 => rfl
          case refine_5 => rfl
          case refine_6 => (intro w' hSw; (try dsimp only at hSw); go_simp; (try with_reducible rfl))
          simp only [Act.put, List.setIfInBounds_toArray, List.set_cons_zero, List.set_cons_succ]
          refine wpAnyL_done (by kernel_rfl) (by kernel_rfl) ?_ _
          clear hsel hHeld
          obtain ⟨g0, g1, g2⟩ := (HAP.out.1.later HOZ.out).tri
          obtain ⟨e0, e1, e2, e3, _⟩ := KP.out _ HOZ.out
          by_cases hk0 : 0 < k
          · have hk0i : (0 : Int) < (k : Int) := by omega
            have HJ : Hid (∀ W, Only (wp.heap.size ≤ ·) wp W → Calls Tryd.prog 15 #[.agg #[.bool lf, .slice A' n' c', .slice B' m' d'], .agg #[.bool y.2.leaf, .slice Q3 y.2.its.length q3, .slice R3 y.2.kds.length r3], .slice P3 y.1.length p3] W (GaveN W (jn l (k + 1)))) := Lib.hid fun W hW => by
              rw [jn_succ hk0 HYK.out]
              have hj := jn_len (k := k) hl120 HALL.out
              have hn1 := HAP.out.2.1.nod.now.2.1.len
              have hn2 := HAP.out.2.1.nod.now.2.2.len
              have hs1 := HSY.out.1
              have hs2 := HSY.out.2.1
              exact Join_n W lf y.2.leaf _ _ _ _ _ _ _ _ _ _ _ _ _ (jn l k) y.2 y.1 ((HAP.out.2.1.later hW).nod.now) (HNY.out.later hW) (by omega) (by omega) (by omega) (by omega) (HSK.out.later hW) (by have := HKL.out; omega)
            go_upto_region 15 with (go_at_call 15; (with_reducible refine (HJ.out _ HOZ.out).mono ?_); rintro ee w20 ⟨JA, jo, jc, JB, jm, jd, rfl, hj, ho⟩; have HNJ := Lib.hid hj; clear hj g0 g1 g2; (replace HOZ := Lib.hid (on_new HOZ.out ho)); clear ho; (obtain ⟨g0, g1, g2⟩ := (HAP.out.1.later HOZ.out).tri); (obtain ⟨f0, f1, f2⟩ := (HAP.out.1.later HOZ.out).melt3))
            have HB8 := Lib.hid (HAP.out.1.later HOZ.out)
            have HO8 := Lib.hid (on_new HAP.out.2.2 HOZ.out)
            obtain ⟨W6, hW6⟩ : ∃ W6, W6 = (((w20.setCell ⟨W4.heap.size, 0, none⟩ (.bool (jn l (k + 1)).leaf)).setCell ⟨W4.heap.size, 1, none⟩ (.slice JA jo jc)).setCell ⟨W4.heap.size, 2, none⟩ (.slice JB jm jd)) := ⟨_, rfl⟩
            have hB6 : Blk W6 W4.heap.size 34 [.bool (jn l (k + 1)).leaf, .slice JA jo jc, .slice JB jm jd] := by rw [hW6]; exact ((HB8.out.set_ 0 _).set_ 1 _).set_ 2 _
            have hO6 : Only (· = W4.heap.size) w20 W6 := by rw [hW6]; exact (((Only.refl (· = W4.heap.size) _).setCell (p := ⟨W4.heap.size, 0, none⟩) rfl _).setCell (p := ⟨W4.heap.size, 1, none⟩) rfl _).setCell (p := ⟨W4.heap.size, 2, none⟩) rfl _
            have hS6 := (nod_free HB8.out HNJ.out).step (hO6.mono fun _ h => .inl h) fun k hk => .inl hk
            rw [← hW6]
            have HX6 : Hid (Blk W6 W4.heap.size 34 [.bool (jn l (k + 1)).leaf, .slice JA jo jc, .slice JB jm jd] ∧ SNod (· = W4.heap.size) W6 (jn l (k + 1)) (jn l (k + 1)).leaf (.slice JA jo jc) (.slice JB jm jd) ∧ Only (W4.heap.size ≤ ·) W4 W6) := Lib.hid ⟨hB6, hS6, HO8.out.trans (hO6.mono fun j hj => by omega)⟩
            clear hW6 hB6 hO6 hS6 g0 g1 g2 f0 f1 f2 e0 e1 e2 e3
            go_wp2
            go_roundw
            case rel => exact ⟨k + 1, _, _, _, _, _, _, _, by omega, by go_num, HX6⟩
            case measure => simp [intOf]; omega
          · have hk0i : ¬ (0 : Int) < (k : Int) := by omega
            obtain rfl : k = 0 := by omega
            have HX6 : Hid (Blk _ W4.heap.size 34 [.bool lf, .slice A' n' c', .slice B' m' d'] ∧ SNod (· = W4.heap.size) _ (jn l (0 + 1)) lf (.slice A' n' c') (.slice B' m' d') ∧ Only (W4.heap.size ≤ ·) W4 _) := Lib.hid ⟨HAP.out.1.later HOZ.out, by rw [(jn_zero HYK.out).2, ← (jn_zero HYK.out).1]; exact HAP.out.2.1.later HOZ.out, on_new HAP.out.2.2 HOZ.out⟩
            clear g0 g1 g2 e0 e1 e2 e3
            go_wp2
            go_roundw
            case rel => exact ⟨0 + 1, _, _, _, _, _, _, _, by omega, by go_num, HX6⟩
            case measure => simp [intOf]; omega
      · obtain rfl : k = l.length := by omega
        have HJX := Lib.hid (jn_all HCU.out HPU.out)
        have hlx : lf = x.leaf := by have h := HA.out.2.1.1; rwa [HJX.out] at h
        obtain rfl : lf = true := hlx.trans HLF.out.symm
        have HNA : Hid (Nod wr x true (.slice A' n' c') (.slice B' m' d')) := Lib.hid (by have h := HA.out.2.1.nod.now; rwa [HJX.out] at h)
        replace HNX := Lib.hid (HNX.out.later HA.out.2.2)
        obtain rfl : n' = x.its.length := HNA.out.2.1.len
        obtain rfl : m' = x.kds.length := HNA.out.2.2.len
        obtain rfl : qn = x.its.length := HNX.out.2.1.len
        obtain rfl : qm = x.kds.length := HNX.out.2.2.len
        have HXR := Lib.hid (HX.out.later HA.out.2.2)
        have HBR := Lib.hid (HB.out.later HA.out.2.2)
        have HNR := Lib.hid (HN.out.later (on_new HO.out HA.out.2.2))
        have HOL : Hid (∀ W, Only (wr.heap.size ≤ ·) wr W → Calls Tryd.prog 13 #[.agg #[.bool true, .slice QA x.its.length qc, .slice QB x.kds.length qd]] W (GaveF W true x)) := Lib.hid fun W hW => old_f W true QA QB x.its.length qc x.kds.length qd x HLF.out (HNX.out.later hW) HSM.out
        have HDS : Hid (∀ W OA oc OB od, Only (wr.heap.size ≤ ·) wr W → Nod W x true (.slice OA x.its.length oc) (.slice OB x.kds.length od) → Calls Tryd.prog 12 #[.agg #[.bool true, .slice OA x.its.length oc, .slice OB x.kds.length od], .agg #[.bool true, .slice A n c, .slice B 0 d]] W (Told W (.bool true))) := Lib.hid fun W OA oc OB od hW hno => by
          have h := HNR.out.later hW
          have e1 := h.2.1.len
          have e2 := h.2.2.len
          rw [← e1, ← e2] at hno ⊢
          exact DSame_eq W true _ _ _ _ _ _ _ _ _ _ x hno h (by have := HSM.out.1; omega) (by have := HSM.out.2.1; omega)
        have KZ : Hid (∀ W, Only (wr.heap.size ≤ ·) wr W → W.cell? ⟨W4.heap.size, 0, none⟩ = some (.bool true) ∧ W.cell? ⟨W4.heap.size, 1, none⟩ = some (.slice A' x.its.length c') ∧ W.cell? ⟨W4.heap.size, 2, none⟩ = some (.slice B' x.kds.length d') ∧ W.cell? ⟨W2.heap.size, 0, none⟩ = some (.bool true) ∧ W.cell? ⟨W2.heap.size, 1, none⟩ = some (.slice QA x.its.length qc) ∧ W.cell? ⟨W2.heap.size, 2, none⟩ = some (.slice QB x.kds.length qd) ∧ W.cell? ⟨w.heap.size, 0, none⟩ = some (.bool true) ∧ W.cell? ⟨w.heap.size, 1, none⟩ = some (.slice A n c) ∧ W.cell? ⟨w.heap.size, 2, none⟩ = some (.slice B 0 d)) := Lib.hid fun W hW => ⟨(HA.out.1.later hW).tri.1, (HA.out.1.later hW).tri.2.1, (HA.out.1.later hW).tri.2.2, (HXR.out.later hW).tri.1, (HXR.out.later hW).tri.2.1, (HXR.out.later hW).tri.2.2, (HBR.out.later hW).tri⟩
        have HOZ : Hid (Only (wr.heap.size ≤ ·) wr wr.drew) := Lib.hid (Only.refl _ wr).drew
        clear hlx
        go_wp2_with (fail)
        refine wp_region_list (B := [false, false, false, false, false, false, false, false, false, false, false, false, false]) (S := (fun W => W.cell? ⟨W4.heap.size, 0, none⟩ = some (.bool true) ∧ W.cell? ⟨W4.heap.size, 1, none⟩ = some (.slice A' x.its.length c') ∧ W.cell? ⟨W4.heap.size, 2, none⟩ = some (.slice B' x.kds.length d') ∧ W.cell? ⟨W2.heap.size, 0, none⟩ = some (.bool true) ∧ W.cell? ⟨W2.heap.size, 1, none⟩ = some (.slice QA x.its.length qc) ∧ W.cell? ⟨W2.heap.size, 2, none⟩ = some (.slice QB x.kds.length qd) ∧ W.cell? ⟨w.heap.size, 0, none⟩ = some (.bool true) ∧ W.cell? ⟨w.heap.size, 1, none⟩ = some (.slice A n c) ∧ W.cell? ⟨w.heap.size, 2, none⟩ = some (.slice B 0 d))) (by kernel_rfl) (by kernel_rfl) (by kernel_rfl) (KZ.out _ HOZ.out) (fun hsel hHeld => ?_)
        obtain ⟨wy, hwy⟩ : ∃ wy, wy = wr.drew := ⟨_, rfl⟩
        rw [← hwy] at HOZ hHeld
        rw [← hwy]
        clear hwy
        refine wpAnyL_ready (rs := [0]) (by kernel_rfl) (by kernel_rfl) (by simp) ?_
        refine AllReadyL.cons (o := ?_) ?_ (fun K hK => ?_) AllReadyL.nil
        case refine_2 => (simp only [List.getElem?_cons_zero]; rfl)
        go_simp
        (go_at_call 7; (with_reducible refine (HAL.out _ (on_new (on_new HO.out HA.out.2.2) HOZ.out)).mono ?_); rintro ee w11 ⟨rfl, ho⟩; (replace HOZ := Lib.hid (on_new HOZ.out ho)); clear ho)
        go_wp2_with (fail)
        clear hHeld
        refine hK.out _ _ (KZ.out _ HOZ.out) (fun hHeld => ?_)
        clear hK K
        try simp only [Act.put, List.setIfInBounds_toArray, List.set_cons_zero, List.set_cons_succ]
        refine take_oneL (i := 1) (d := 138) (oi := ?_) (v := ?_) ?_ hsel (by kernel_rfl) (by kernel_rfl) (fun _ _ _ h => h) ?_ ?_ ?_ (by assumption) ?_
        case refine_3 => (simp only [List.getElem?_cons_succ, List.getElem?_cons_zero]; rfl)
        case refine_4 => rfl
        case refine_5 => rfl
        case refine_6 => (intro w' hSw; (try dsimp only at hSw); go_simp; (try with_reducible rfl))
        simp only [Act.put, List.setIfInBounds_toArray, List.set_cons_zero, List.set_cons_succ]
        refine take_oneL (i := 2) (d := 139) (oi := ?_) (v := ?_) ?_ hsel (by kernel_rfl) (by kernel_rfl) (fun _ _ _ h => h) ?_ ?_ ?_ (by assumption) ?_
        case refine_3 => (simp only [List.getElem?_cons_succ, List.getElem?_cons_zero]; rfl)
        case refine_4 => rfl
        case refine_5 => rfl
        case refine_6 => (intro w' hSw; (try dsimp only at hSw); go_simp; (try with_reducible rfl))
        simp only [Act.put, List.setIfInBounds_toArray, List.set_cons_zero, List.set_cons_succ]
        refine take_oneL (i := 3) (d := 140) (oi := ?_) (v := ?_) ?_ hsel (by kernel_rfl) (by kernel_rfl) (fun _ _ _ h => h) ?_ ?_ ?_ (by assumption) ?_
        case refine_3 => (simp only [List.getElem?_cons_succ, List.getElem?_cons_zero]; rfl)
        case refine_4 => rfl
        case refine_5 => rfl
        case refine_6 => (intro w' hSw; (try dsimp only at hSw); go_simp; (try with_reducible rfl))
        simp only [Act.put, List.setIfInBounds_toArray, List.set_cons_zero, List.set_cons_succ]
        refine wpAnyL_ready (rs := [4]) (by kernel_rfl) (by kernel_rfl) (by simp) ?_
        refine AllReadyL.cons (o := ?_) ?_ (fun K hK => ?_) AllReadyL.nil
        case refine_2 => (simp only [List.getElem?_cons_succ, List.getElem?_cons_zero]; rfl)
        go_simp
        (go_at_call 16; (with_reducible refine (NSame_eq _ _ _ _ _ _ _ _ _ _ _ _ x (HNA.out.later HOZ.out) (HNX.out.later HOZ.out) HSX.out.1 HSX.out.2).mono ?_); rintro ee w12 ⟨rfl, ho⟩; (replace HOZ := Lib.hid (on_new HOZ.out ho)); clear ho)
        go_wp2_with (fail)
        clear hHeld
        refine hK.out _ _ (KZ.out _ HOZ.out) (fun hHeld => ?_)
        clear hK K
        try simp only [Act.put, List.setIfInBounds_toArray, List.set_cons_zero, List.set_cons_succ]
        refine take_oneL (i := 5) (d := 142) (oi := ?_) (v := ?_) ?_ hsel (by kernel_rfl) (by kernel_rfl) (fun _ _ _ h => h) ?_ ?_ ?_ (by assumption) ?_
        case refine_3 => (simp only [List.getElem?_cons_succ, List.getElem?_cons_zero]; rfl)
        case refine_4 => rfl
        case refine_5 => rfl
        case refine_6 => (intro w' hSw; (try dsimp only at hSw); go_simp; (try with_reducible rfl))
        simp only [Act.put, List.setIfInBounds_toArray, List.set_cons_zero, List.set_cons_succ]
        refine take_oneL (i := 6) (d := 143) (oi := ?_) (v := ?_) ?_ hsel (by kernel_rfl) (by kernel_rfl) (fun _ _ _ h => h) ?_ ?_ ?_ (by assumption) ?_
        case refine_3 => (simp only [List.getElem?_cons_succ, List.getElem?_cons_zero]; rfl)
        case refine_4 => rfl
        case refine_5 => rfl
        case refine_6 => (intro w' hSw; (try dsimp only at hSw); go_simp; (try with_reducible rfl))
        simp only [Act.put, List.setIfInBounds_toArray, List.set_cons_zero, List.set_cons_succ]
        refine take_oneL (i := 7) (d := 144) (oi := ?_) (v := ?_) ?_ hsel (by kernel_rfl) (by kernel_rfl) (fun _ _ _ h => h) ?_ ?_ ?_ (by assumption) ?_
        case refine_3 => (simp only [List.getElem?_cons_succ, List.getElem?_cons_zero]; rfl)
        case refine_4 => rfl
        case refine_5 => rfl
        case refine_6 => (intro w' hSw; (try dsimp only at hSw); go_simp; (try with_reducible rfl))
        simp only [Act.put, List.setIfInBounds_toArray, List.set_cons_zero, List.set_cons_succ]
        refine take_oneL (i := 9) (d := 146) (oi := ?_) (v := ?_) ?_ hsel (by kernel_rfl) (by kernel_rfl) (fun _ _ _ h => h) ?_ ?_ ?_ (by assumption) ?_
        case refine_3 => (simp only [List.getElem?_cons_succ, List.getElem?_cons_zero]; rfl)
        case refine_4 => rfl
        case refine_5 => rfl
        case refine_6 => (intro w' hSw; (try dsimp only at hSw); go_simp; (try with_reducible rfl))
        simp only [Act.put, List.setIfInBounds_toArray, List.set_cons_zero, List.set_cons_succ]
        refine wpAnyL_ready (rs := [8]) (by kernel_rfl) (by kernel_rfl) (by simp) ?_
        refine AllReadyL.cons (o := ?_) ?_ (fun K hK => ?_) AllReadyL.nil
        case refine_2 => (simp only [List.getElem?_cons_succ, List.getElem?_cons_zero]; rfl)
        go_simp
        (go_at_call 13; (with_reducible refine (HOL.out _ HOZ.out).mono ?_); rintro ee w13 ⟨OA, on, oc, OB, om, od, rfl, hno, ho⟩; (obtain rfl := hno.2.1.len); (obtain rfl := hno.2.2.len); have HNO := Lib.hid hno; clear hno; (replace HOZ := Lib.hid (on_new HOZ.out ho)); clear ho)
        go_wp2_with (fail)
        clear hHeld
        refine hK.out _ _ (KZ.out _ HOZ.out) (fun hHeld => ?_)
        clear hK K
        try simp only [Act.put, List.setIfInBounds_toArray, List.set_cons_zero, List.set_cons_succ]
        refine wpAnyL_ready (rs := [10]) (by kernel_rfl) (by kernel_rfl) (by simp) ?_
        refine AllReadyL.cons (o := ?_) ?_ (fun K hK => ?_) AllReadyL.nil
        case refine_2 => (simp only [List.getElem?_cons_succ, List.getElem?_cons_zero]; rfl)
        go_simp
        (go_at_call 12; (with_reducible refine (HDS.out _ _ _ _ _ HOZ.out HNO.out).mono ?_); rintro ee w14 ⟨rfl, ho⟩; (replace HOZ := Lib.hid (on_new HOZ.out ho)); clear ho)
        go_wp2_with (fail)
        clear hHeld
        refine hK.out _ _ (KZ.out _ HOZ.out) (fun hHeld => ?_)
        clear hK K
        try simp only [Act.put, List.setIfInBounds_toArray, List.set_cons_zero, List.set_cons_succ]
        refine take_oneL (i := 11) (d := 148) (oi := ?_) (v := ?_) ?_ hsel (by kernel_rfl) (by kernel_rfl) (fun _ _ _ h => h) ?_ ?_ ?_ (by assumption) ?_
        case refine_3 => (simp only [List.getElem?_cons_succ, List.getElem?_cons_zero]; rfl)
        case refine_4 => rfl
        case refine_5 => rfl
        case refine_6 => (intro w' hSw; (try dsimp only at hSw); go_simp; (try with_reducible rfl))
        simp only [Act.put, List.setIfInBounds_toArray, List.set_cons_zero, List.set_cons_succ]
        refine take_oneL (i := 12) (d := 4) (oi := ?_) (v := ?_) ?_ hsel (by kernel_rfl) (by kernel_rfl) (fun _ _ _ h => h) ?_ ?_ ?_ (by assumption) ?_
        case refine_3 => (simp only [List.getElem?_cons_succ, List.getElem?_cons_zero]; rfl)
        case refine_4 => rfl
        case refine_5 => rfl
        case refine_6 => (intro w' hSw; (try dsimp only at hSw); go_simp; (try with_reducible rfl))
        simp only [Act.put, List.setIfInBounds_toArray, List.set_cons_zero, List.set_cons_succ]
        refine wpAnyL_done (by kernel_rfl) (by kernel_rfl) ?_ _
        clear hsel hHeld
        go_wp2
        go_ret
        exact ⟨rfl, on_new (on_new HO.out HA.out.2.2) HOZ.out⟩
end Go.Proofs.YtjbbljnfgpggkaaDoor
