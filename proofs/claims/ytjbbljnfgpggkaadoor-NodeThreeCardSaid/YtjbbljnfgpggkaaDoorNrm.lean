/-
  Room, Fits, Low, middle of the program.
-/
import Derived.Test.YtjbbljnfgpggkaaDoorEnt
set_option linter.unusedVariables false
namespace Go.Proofs.YtjbbljnfgpggkaaDoor
open Go.RowKit
attribute [local go_sem] run_store_func

theorem rms_leaf {x : Nd} (g : Int) (h : x.leaf = true) : rms g x = x.its.map (irm g) := by unfold rms; rw [if_pos h]
theorem rms_kids {x : Nd} (g : Int) (h : x.leaf = false) : rms g x = x.kds.map (krm g) := by unfold rms; rw [if_neg (by rw [h]; decide)]
section
variable (w : World) (A B : Option Addr) (n c m d : Nat) (x : Nd) (g : Int)

set_option maxRecDepth 100000 in
set_option maxHeartbeats 3200000 in
theorem Room_entries_leaf (hf : x.leaf = true) (hN : Nod w x true (.slice A n c) (.slice B m d)) (hg : Gens w) (hs : Small x) :
    Calls Tryd.prog 28 #[.int .i64 g, .agg #[.bool true, .slice A n c, .slice B m d]] w (Told w (.int .i64 (nrm g x))) := by
  have HO : Hid (Only (w.heap.size ≤ ·) w (w.alloc (.cells #[.bool true, .slice A n c, .slice B m d] 34))) := (Only.refl _ w).alloc (fun _ h => h) _
  have hlen : n = (rms g x).length := by rw [rms_leaf g hf, List.length_map]; exact hN.2.1.len
  have hn1 : n ≤ 1000 := by rw [hN.2.1.len]; exact hs.1
  obtain ⟨l, hl⟩ : ∃ l, l = rms g x := ⟨_, rfl⟩
  have HS : Hid (nrm g x = l.sum) := by show _ = _; unfold nrm; rw [hl]
  have HE := Lib.hid (hs.each g)
  rw [← hl] at hlen HE
  have HLEN := Lib.hid hlen
  have HR : Hid (∀ (k : Nat), k < n → ∃ a, l[k]? = some a ∧ 0 ≤ a ∧ a ≤ 20000 ∧ ∀ W, Only (w.heap.size ≤ ·) w W → Calls Tryd.prog 60 #[.agg #[.bool true, .slice A n c, .slice B m d], .int .i64 g, .int .i64 k] W (Told W (.int .i64 a))) := by
    intro k hk
    obtain ⟨i, hx⟩ : ∃ i, x.its[k]? = some i := ⟨_, List.getElem?_eq_getElem (by rw [← hN.2.1.len]; exact hk)⟩
    have e : l[k]? = some (irm g i) := by rw [hl, rms_leaf g hf, List.getElem?_map, hx]; rfl
    have hr := HE.out _ (List.mem_of_getElem? e)
    exact ⟨_, e, hr.1, hr.2, fun W hW => itemRoom_c W true A B n c m d k x g _ (hN.later hW) (hg.later hW) hs hx⟩
  clear hlen hN hg hs HE hf
  rw [HS.out]
  clear HS hl
  go_enter Tryd.func28, Tryd.ntmps28
  go_wp2_with (go_at_call 31; (with_reducible refine (entries_leaf _ _ _ _ _ _ _).mono ?_); rintro e w1 ⟨rfl, ho⟩; have HO1 := Lib.hid (on_new HO.out ho); have HB := Lib.hid (Blk.new w1 74 [.int .i64 n, .func (.func 59) #[.agg #[.bool true, .slice A n c, .slice B m d]] #[], .func (.func 60) #[.agg #[.bool true, .slice A n c, .slice B m d]] #[], .func (.func 61) #[.agg #[.bool true, .slice A n c, .slice B m d]] #[]]); have HO2 := Lib.hid (HO1.out.alloc (fun _ h => h) (.cells #[.int .i64 n, .func (.func 59) #[.agg #[.bool true, .slice A n c, .slice B m d]] #[], .func (.func 60) #[.agg #[.bool true, .slice A n c, .slice B m d]] #[], .func (.func 61) #[.agg #[.bool true, .slice A n c, .slice B m d]] #[]] 74)); clear ho; unfold leafEnt)
  go_loopw [6, 12] (fun s i wr => ∃ (k : Nat) (t : Int), k ≤ n ∧ 0 ≤ t ∧ t ≤ k * 20000 ∧ s = .int .i64 t ∧ i = .int .i64 k ∧ Hid (t = pre l k) ∧ Only ((w1.alloc (.cells #[.int .i64 n, .func (.func 59) #[.agg #[.bool true, .slice A n c, .slice B m d]] #[], .func (.func 60) #[.agg #[.bool true, .slice A n c, .slice B m d]] #[], .func (.func 61) #[.agg #[.bool true, .slice A n c, .slice B m d]] #[]] 74)).heap.size ≤ ·) (w1.alloc (.cells #[.int .i64 n, .func (.func 59) #[.agg #[.bool true, .slice A n c, .slice B m d]] #[], .func (.func 60) #[.agg #[.bool true, .slice A n c, .slice B m d]] #[], .func (.func 61) #[.agg #[.bool true, .slice A n c, .slice B m d]] #[]] 74)) wr) (fun _ i _ => n - (intOf i).toNat)
  case atStart => exact ⟨0, 0, Nat.zero_le _, by omega, by omega, rfl, rfl, rfl, Only.refl _ _⟩
  case round =>
    obtain ⟨k, t, hk, ht0, ht, rfl, rfl, HT, ho⟩ := hrel
    have HOR := Lib.hid (on_new HO2.out ho)
    have HBR := Lib.hid (HB.out.later ho)
    have HOL := Lib.hid ho
    clear ho HB
    by_cases hlt : k < n
    · obtain ⟨a, hla, ha0, ha1, hcall⟩ := HR.out k hlt
      have HX := Lib.hid (pre_succ hla)
      have HC := Lib.hid hcall
      clear hla hcall
      obtain ⟨b0, b1, b2, b3⟩ := HBR.out.four
      go_wp2_with (go_at_call 60; (with_reducible refine (HC.out _ HOR.out).mono ?_); rintro e w3 ⟨rfl, ho⟩; have HO3 := Lib.hid (on_new HOL.out ho); clear ho)
      go_roundw
      case rel => exact ⟨k + 1, t + a, by omega, by omega, by omega, rfl, by go_num, Lib.hid (by rw [HX.out, ← HT.out]), HO3.out⟩
      case measure => simp [intOf]; omega
    · obtain rfl : k = n := by omega
      go_wp2
      go_ret
      exact ⟨by rw [HT.out, HLEN.out, pre_all]; rfl, HOR.out⟩

set_option maxRecDepth 100000 in
set_option maxHeartbeats 3200000 in
theorem Room_entries_kids (hf : x.leaf = false) (hN : Nod w x false (.slice A n c) (.slice B m d)) (hg : Gens w) (hs : Small x) :
    Calls Tryd.prog 28 #[.int .i64 g, .agg #[.bool false, .slice A n c, .slice B m d]] w (Told w (.int .i64 (nrm g x))) := by
  have HO : Hid (Only (w.heap.size ≤ ·) w (w.alloc (.cells #[.bool false, .slice A n c, .slice B m d] 34))) := (Only.refl _ w).alloc (fun _ h => h) _
  have hlen : m = (rms g x).length := by rw [rms_kids g hf, List.length_map]; exact hN.2.2.len
  have hn1 : m ≤ 1000 := by rw [hN.2.2.len]; exact hs.2.1
  obtain ⟨l, hl⟩ : ∃ l, l = rms g x := ⟨_, rfl⟩
  have HS : Hid (nrm g x = l.sum) := by show _ = _; unfold nrm; rw [hl]
  have HE := Lib.hid (hs.each g)
  rw [← hl] at hlen HE
  have HLEN := Lib.hid hlen
  have HR : Hid (∀ (k : Nat), k < m → ∃ a, l[k]? = some a ∧ 0 ≤ a ∧ a ≤ 20000 ∧ ∀ W, Only (w.heap.size ≤ ·) w W → Calls Tryd.prog 63 #[.agg #[.bool false, .slice A n c, .slice B m d], .int .i64 g, .int .i64 k] W (Told W (.int .i64 a))) := by
    intro k hk
    obtain ⟨i, hx⟩ : ∃ i, x.kds[k]? = some i := ⟨_, List.getElem?_eq_getElem (by rw [← hN.2.2.len]; exact hk)⟩
    have e : l[k]? = some (krm g i) := by rw [hl, rms_kids g hf, List.getElem?_map, hx]; rfl
    have hr := HE.out _ (List.mem_of_getElem? e)
    exact ⟨_, e, hr.1, hr.2, fun W hW => kidRoom_c W false A B n c m d k x g _ (hN.later hW) (hg.later hW) hs hx⟩
  clear hlen hN hg hs HE hf
  rw [HS.out]
  clear HS hl
  go_enter Tryd.func28, Tryd.ntmps28
  go_wp2_with (go_at_call 31; (with_reducible refine (entries_kids _ _ _ _ _ _ _).mono ?_); rintro e w1 ⟨rfl, ho⟩; have HO1 := Lib.hid (on_new HO.out ho); have HB := Lib.hid (Blk.new w1 74 [.int .i64 m, .func (.func 62) #[.agg #[.bool false, .slice A n c, .slice B m d]] #[], .func (.func 63) #[.agg #[.bool false, .slice A n c, .slice B m d]] #[], .func (.func 64) #[.agg #[.bool false, .slice A n c, .slice B m d]] #[]]); have HO2 := Lib.hid (HO1.out.alloc (fun _ h => h) (.cells #[.int .i64 m, .func (.func 62) #[.agg #[.bool false, .slice A n c, .slice B m d]] #[], .func (.func 63) #[.agg #[.bool false, .slice A n c, .slice B m d]] #[], .func (.func 64) #[.agg #[.bool false, .slice A n c, .slice B m d]] #[]] 74)); clear ho; unfold kidsEnt)
  go_loopw [6, 12] (fun s i wr => ∃ (k : Nat) (t : Int), k ≤ m ∧ 0 ≤ t ∧ t ≤ k * 20000 ∧ s = .int .i64 t ∧ i = .int .i64 k ∧ Hid (t = pre l k) ∧ Only ((w1.alloc (.cells #[.int .i64 m, .func (.func 62) #[.agg #[.bool false, .slice A n c, .slice B m d]] #[], .func (.func 63) #[.agg #[.bool false, .slice A n c, .slice B m d]] #[], .func (.func 64) #[.agg #[.bool false, .slice A n c, .slice B m d]] #[]] 74)).heap.size ≤ ·) (w1.alloc (.cells #[.int .i64 m, .func (.func 62) #[.agg #[.bool false, .slice A n c, .slice B m d]] #[], .func (.func 63) #[.agg #[.bool false, .slice A n c, .slice B m d]] #[], .func (.func 64) #[.agg #[.bool false, .slice A n c, .slice B m d]] #[]] 74)) wr) (fun _ i _ => m - (intOf i).toNat)
  case atStart => exact ⟨0, 0, Nat.zero_le _, by omega, by omega, rfl, rfl, rfl, Only.refl _ _⟩
  case round =>
    obtain ⟨k, t, hk, ht0, ht, rfl, rfl, HT, ho⟩ := hrel
    have HOR := Lib.hid (on_new HO2.out ho)
    have HBR := Lib.hid (HB.out.later ho)
    have HOL := Lib.hid ho
    clear ho HB
    by_cases hlt : k < m
    · obtain ⟨a, hla, ha0, ha1, hcall⟩ := HR.out k hlt
      have HX := Lib.hid (pre_succ hla)
      have HC := Lib.hid hcall
      clear hla hcall
      obtain ⟨b0, b1, b2, b3⟩ := HBR.out.four
      go_wp2_with (go_at_call 63; (with_reducible refine (HC.out _ HOR.out).mono ?_); rintro e w3 ⟨rfl, ho⟩; have HO3 := Lib.hid (on_new HOL.out ho); clear ho)
      go_roundw
      case rel => exact ⟨k + 1, t + a, by omega, by omega, by omega, rfl, by go_num, Lib.hid (by rw [HX.out, ← HT.out]), HO3.out⟩
      case measure => simp [intOf]; omega
    · obtain rfl : k = m := by omega
      go_wp2
      go_ret
      exact ⟨by rw [HT.out, HLEN.out, pre_all]; rfl, HOR.out⟩

theorem Room_n (f : Bool) (hN : Nod w x f (.slice A n c) (.slice B m d)) (hg : Gens w) (hs : Small x) :
    Calls Tryd.prog 28 #[.int .i64 g, .agg #[.bool f, .slice A n c, .slice B m d]] w (Told w (.int .i64 (nrm g x))) := by
  obtain hf := hN.1
  cases f
  · exact Room_entries_kids w A B n c m d x g hf.symm hN hg hs
  · exact Room_entries_leaf w A B n c m d x g hf.symm hN hg hs

set_option maxHeartbeats 3200000 in
theorem Fits_n (f : Bool) (b : Bool) (hb : nfit g x = b) (hN : Nod w x f (.slice A n c) (.slice B m d)) (hg : Gens w) (hs : Small x) :
    Calls Tryd.prog 14 #[.int .i64 g, .agg #[.bool f, .slice A n c, .slice B m d]] w (Told w (.bool b)) := by
  have HO : Hid (Only (w.heap.size ≤ ·) w (w.alloc (.cells #[.bool f, .slice A n c, .slice B m d] 34))) := (Only.refl _ w).alloc (fun _ h => h) _
  have HG := Lib.hid (hg.later HO.out)
  obtain ⟨r, hr⟩ : ∃ r, r = nrm g x := ⟨_, rfl⟩
  obtain ⟨v, hv⟩ : ∃ v, v = tr g 248 240 240 := ⟨_, rfl⟩
  have HR : Hid (∀ W, Only (w.heap.size ≤ ·) w W → Calls Tryd.prog 28 #[.int .i64 g, .agg #[.bool f, .slice A n c, .slice B m d]] W (Told W (.int .i64 r))) := fun W hW => by rw [hr]; exact Room_n W A B n c m d x g f (hN.later hW) (hg.later hW) hs
  have HV : Hid (∀ W, Gens W → Calls Tryd.prog 38 #[.int .i64 g] W (Told W (.int .i64 v))) := fun W hW => by rw [hv]; exact Cap_c W g hW
  unfold nfit at hb
  rw [← hr, ← hv] at hb
  have HB := Lib.hid hb
  clear hb hr hv hN hg hs
  go_enter Tryd.func14, Tryd.ntmps14
  go_wp2_with (first
    | (go_at_call 28; (with_reducible refine (HR.out _ HO.out).mono ?_); rintro e w1 ⟨rfl, ho⟩; (replace HG := Lib.hid (HG.out.later ho)); (replace HO := Lib.hid (on_new HO.out ho)); clear ho)
    | (go_at_call 38; (with_reducible refine (HV.out _ HG.out).mono ?_); rintro e w2 ⟨rfl, ho⟩; (replace HO := Lib.hid (on_new HO.out ho)); clear ho))
  go_ret
  exact ⟨by rw [← HB.out]; rfl, HO.out⟩

set_option maxHeartbeats 3200000 in
theorem Low_n (f : Bool) (b : Bool) (hb : decide (3 * nrm g x < tr g 248 240 240) = b) (hN : Nod w x f (.slice A n c) (.slice B m d)) (hg : Gens w) (hs : Small x) :
    Calls Tryd.prog 29 #[.int .i64 g, .agg #[.bool f, .slice A n c, .slice B m d]] w (Told w (.bool b)) := by
  have HO : Hid (Only (w.heap.size ≤ ·) w (w.alloc (.cells #[.bool f, .slice A n c, .slice B m d] 34))) := (Only.refl _ w).alloc (fun _ h => h) _
  have HG := Lib.hid (hg.later HO.out)
  have hrr := hs.rm g
  obtain ⟨r, hr⟩ : ∃ r, r = nrm g x := ⟨_, rfl⟩
  obtain ⟨v, hv⟩ : ∃ v, v = tr g 248 240 240 := ⟨_, rfl⟩
  have HR : Hid (∀ W, Only (w.heap.size ≤ ·) w W → Calls Tryd.prog 28 #[.int .i64 g, .agg #[.bool f, .slice A n c, .slice B m d]] W (Told W (.int .i64 r))) := fun W hW => by rw [hr]; exact Room_n W A B n c m d x g f (hN.later hW) (hg.later hW) hs
  have HV : Hid (∀ W, Gens W → Calls Tryd.prog 38 #[.int .i64 g] W (Told W (.int .i64 v))) := fun W hW => by rw [hv]; exact Cap_c W g hW
  rw [← hr, ← hv] at hb
  rw [← hr] at hrr
  have HB := Lib.hid hb
  clear hb hr hv hN hg hs
  go_enter Tryd.func29, Tryd.ntmps29
  go_wp2_with (first
    | (go_at_call 28; (with_reducible refine (HR.out _ HO.out).mono ?_); rintro e w1 ⟨rfl, ho⟩; (replace HG := Lib.hid (HG.out.later ho)); (replace HO := Lib.hid (on_new HO.out ho)); clear ho)
    | (go_at_call 38; (with_reducible refine (HV.out _ HG.out).mono ?_); rintro e w2 ⟨rfl, ho⟩; (replace HO := Lib.hid (on_new HO.out ho)); clear ho))
  go_ret
  exact ⟨by rw [← HB.out]; rfl, HO.out⟩

theorem Blk.three {w : World} {g : Nat} {t : TypeId} {a b c : Value} (h : Blk w g t [a, b, c]) : w.cell? ⟨g, 0, none⟩ = some a ∧ w.cell? ⟨g, 1, none⟩ = some b ∧ w.cell? ⟨g, 2, none⟩ = some c := ⟨h.cell 0, h.cell 1, h.cell 2⟩
/-- The place at which a row of such room is cut is handed back. -/
def Mid (w : World) (l : List Int) (e : Ending) (w' : World) : Prop := ∃ k : Nat, e = .returned (.int .i64 k) ∧ IsMid l k ∧ Only (w.heap.size ≤ ·) w w'

set_option maxRecDepth 100000 in
set_option maxHeartbeats 6400000 in
theorem mid_entries_leaf (hf : x.leaf = true) (hN : Nod w x true (.slice A n c) (.slice B m d)) (hg : Gens w) (hs : Small x) (h2 : 2 ≤ many x) :
    Calls Tryd.prog 33 #[.int .i64 g, .agg #[.bool true, .slice A n c, .slice B m d]] w (Mid w (rms g x)) := by
  have HO : Hid (Only (w.heap.size ≤ ·) w (w.alloc (.cells #[.bool true, .slice A n c, .slice B m d] 34))) := (Only.refl _ w).alloc (fun _ h => h) _
  have HN0 : Hid (Blk (w.alloc (.cells #[.bool true, .slice A n c, .slice B m d] 34)) w.heap.size 34 [.bool true, .slice A n c, .slice B m d]) := Blk.new w 34 [.bool true, .slice A n c, .slice B m d]
  have hlen : n = (rms g x).length := by rw [rms_leaf g hf, List.length_map]; exact hN.2.1.len
  have hc2 : 2 ≤ n := by rw [hlen, rms_length]; exact h2
  have hn1 : n ≤ 1000 := by rw [hN.2.1.len]; exact hs.1
  have hrr := hs.rm g
  obtain ⟨l, hl⟩ : ∃ l, l = rms g x := ⟨_, rfl⟩
  obtain ⟨S, hS⟩ : ∃ S, S = nrm g x := ⟨_, rfl⟩
  have HS : Hid (S = l.sum) := by show _ = _; rw [hS]; unfold nrm; rw [hl]
  have HE := Lib.hid (hs.each g)
  have HRM : Hid (∀ W, Only (w.heap.size ≤ ·) w W → Calls Tryd.prog 28 #[.int .i64 g, .agg #[.bool true, .slice A n c, .slice B m d]] W (Told W (.int .i64 S))) := fun W hW => by rw [hS]; exact Room_n W A B n c m d x g true (hN.later hW) (hg.later hW) hs
  rw [← hl] at hlen HE
  rw [← hS] at hrr
  have HLEN := Lib.hid hlen
  have HR : Hid (∀ (k : Nat), k < n → ∃ a, l[k]? = some a ∧ 0 ≤ a ∧ a ≤ 20000 ∧ ∀ W, Only (w.heap.size ≤ ·) w W → Calls Tryd.prog 60 #[.agg #[.bool true, .slice A n c, .slice B m d], .int .i64 g, .int .i64 k] W (Told W (.int .i64 a))) := by
    intro k hk
    obtain ⟨i, hx⟩ : ∃ i, x.its[k]? = some i := ⟨_, List.getElem?_eq_getElem (by rw [← hN.2.1.len]; exact hk)⟩
    have e : l[k]? = some (irm g i) := by rw [hl, rms_leaf g hf, List.getElem?_map, hx]; rfl
    have hr := HE.out _ (List.mem_of_getElem? e)
    exact ⟨_, e, hr.1, hr.2, fun W hW => itemRoom_c W true A B n c m d k x g _ (hN.later hW) (hg.later hW) hs hx⟩
  rw [← hl]
  clear hlen hN hg hs HE hf hl hS h2
  go_enter Tryd.func33, Tryd.ntmps33
  go_wp2_with (first
    | (go_at_call 31; (with_reducible refine (entries_leaf _ _ _ _ _ _ _).mono ?_); rintro e w1 ⟨rfl, ho⟩; have HO1 := Lib.hid (on_new HO.out ho); (replace HN0 := Lib.hid ((HN0.out.later ho).alloc (.cells #[.int .i64 n, .func (.func 59) #[.agg #[.bool true, .slice A n c, .slice B m d]] #[], .func (.func 60) #[.agg #[.bool true, .slice A n c, .slice B m d]] #[], .func (.func 61) #[.agg #[.bool true, .slice A n c, .slice B m d]] #[]] 74))); (obtain ⟨z0, z1, z2⟩ := HN0.out.three); have HB := Lib.hid (Blk.new w1 74 [.int .i64 n, .func (.func 59) #[.agg #[.bool true, .slice A n c, .slice B m d]] #[], .func (.func 60) #[.agg #[.bool true, .slice A n c, .slice B m d]] #[], .func (.func 61) #[.agg #[.bool true, .slice A n c, .slice B m d]] #[]]); have HO2 := Lib.hid (HO1.out.alloc (fun _ h => h) (.cells #[.int .i64 n, .func (.func 59) #[.agg #[.bool true, .slice A n c, .slice B m d]] #[], .func (.func 60) #[.agg #[.bool true, .slice A n c, .slice B m d]] #[], .func (.func 61) #[.agg #[.bool true, .slice A n c, .slice B m d]] #[]] 74)); clear ho; unfold leafEnt)
    | (go_at_call 28; (with_reducible refine (HRM.out _ HO2.out).mono ?_); rintro e w2 ⟨rfl, ho⟩; (replace HB := Lib.hid (HB.out.later ho)); have HO3 := Lib.hid (on_new HO2.out ho); clear ho))
  go_loopw [7, 8] (fun s i wr => ∃ (q : Nat) (t : Int), q + 1 ≤ n ∧ 0 ≤ t ∧ t ≤ q * 20000 ∧ s = .int .i64 t ∧ i = .int .i64 ((q : Int) + 1) ∧ Hid (t = pre l q) ∧ Hid (∀ j, 1 ≤ j → j < q + 1 → 2 * pre l j < l.sum) ∧ Only (w2.heap.size ≤ ·) w2 wr) (fun _ i _ => n - (intOf i).toNat)
  case atStart => exact ⟨0, 0, by omega, by omega, by omega, rfl, rfl, rfl, fun j h1 h2 => by omega, Only.refl _ _⟩
  case round =>
    obtain ⟨q, t, hk, ht0, ht, rfl, rfl, HT, HJ, ho⟩ := hrel
    have HOR := Lib.hid (on_new HO3.out ho)
    have HBR := Lib.hid (HB.out.later ho)
    have HOL := Lib.hid ho
    clear ho HB
    by_cases hlt : q + 1 < n
    · obtain ⟨a, hla, ha0, ha1, hcall⟩ := HR.out q (by omega)
      have HX := Lib.hid (pre_succ hla)
      have HC := Lib.hid hcall
      clear hla hcall
      obtain ⟨b0, b1, b2, b3⟩ := HBR.out.four
      have hlti : (q : Int) + 1 < (n : Int) := by omega
      by_cases hle : S ≤ 2 * (t + a)
      · go_wp2_with (go_at_call 60; (with_reducible refine (HC.out _ HOR.out).mono ?_); rintro e w3 ⟨rfl, ho⟩; have HO3 := Lib.hid (on_new HOR.out ho); clear ho)
        go_ret
        exact ⟨q + 1, rfl, ⟨by omega, by rw [← HLEN.out]; exact hlt, HJ.out, .inl (by rw [← HS.out, HX.out, ← HT.out]; exact hle)⟩, HO3.out⟩
      · have hle' : ¬ S ≤ 2 * (t + a) := hle
        go_wp2_with (go_at_call 60; (with_reducible refine (HC.out _ HOR.out).mono ?_); rintro e w3 ⟨rfl, ho⟩; have HO3 := Lib.hid (on_new HOL.out ho); clear ho)
        go_roundw
        case rel => exact ⟨q + 1, t + a, by omega, by omega, by omega, rfl, by go_num, Lib.hid (by rw [HX.out, ← HT.out]), Lib.hid (fun j h1 h2 => by
          by_cases e : j = q + 1
          · rw [e, HX.out, ← HT.out, ← HS.out]; omega
          · exact HJ.out j h1 (by omega)), HO3.out⟩
        case measure => simp [intOf]; omega
    · obtain rfl : q + 1 = n := by omega
      obtain ⟨b0, b1, b2, b3⟩ := HBR.out.four
      go_wp2
      go_ret
      exact ⟨q, rfl, ⟨by omega, by rw [← HLEN.out]; omega, fun j h1 h2 => HJ.out j h1 (by omega), .inr HLEN.out⟩, HOR.out⟩

set_option maxRecDepth 100000 in
set_option maxHeartbeats 6400000 in
theorem mid_entries_kids (hf : x.leaf = false) (hN : Nod w x false (.slice A n c) (.slice B m d)) (hg : Gens w) (hs : Small x) (h2 : 2 ≤ many x) :
    Calls Tryd.prog 33 #[.int .i64 g, .agg #[.bool false, .slice A n c, .slice B m d]] w (Mid w (rms g x)) := by
  have HO : Hid (Only (w.heap.size ≤ ·) w (w.alloc (.cells #[.bool false, .slice A n c, .slice B m d] 34))) := (Only.refl _ w).alloc (fun _ h => h) _
  have HN0 : Hid (Blk (w.alloc (.cells #[.bool false, .slice A n c, .slice B m d] 34)) w.heap.size 34 [.bool false, .slice A n c, .slice B m d]) := Blk.new w 34 [.bool false, .slice A n c, .slice B m d]
  have hlen : m = (rms g x).length := by rw [rms_kids g hf, List.length_map]; exact hN.2.2.len
  have hc2 : 2 ≤ m := by rw [hlen, rms_length]; exact h2
  have hn1 : m ≤ 1000 := by rw [hN.2.2.len]; exact hs.2.1
  have hrr := hs.rm g
  obtain ⟨l, hl⟩ : ∃ l, l = rms g x := ⟨_, rfl⟩
  obtain ⟨S, hS⟩ : ∃ S, S = nrm g x := ⟨_, rfl⟩
  have HS : Hid (S = l.sum) := by show _ = _; rw [hS]; unfold nrm; rw [hl]
  have HE := Lib.hid (hs.each g)
  have HRM : Hid (∀ W, Only (w.heap.size ≤ ·) w W → Calls Tryd.prog 28 #[.int .i64 g, .agg #[.bool false, .slice A n c, .slice B m d]] W (Told W (.int .i64 S))) := fun W hW => by rw [hS]; exact Room_n W A B n c m d x g false (hN.later hW) (hg.later hW) hs
  rw [← hl] at hlen HE
  rw [← hS] at hrr
  have HLEN := Lib.hid hlen
  have HR : Hid (∀ (k : Nat), k < m → ∃ a, l[k]? = some a ∧ 0 ≤ a ∧ a ≤ 20000 ∧ ∀ W, Only (w.heap.size ≤ ·) w W → Calls Tryd.prog 63 #[.agg #[.bool false, .slice A n c, .slice B m d], .int .i64 g, .int .i64 k] W (Told W (.int .i64 a))) := by
    intro k hk
    obtain ⟨i, hx⟩ : ∃ i, x.kds[k]? = some i := ⟨_, List.getElem?_eq_getElem (by rw [← hN.2.2.len]; exact hk)⟩
    have e : l[k]? = some (krm g i) := by rw [hl, rms_kids g hf, List.getElem?_map, hx]; rfl
    have hr := HE.out _ (List.mem_of_getElem? e)
    exact ⟨_, e, hr.1, hr.2, fun W hW => kidRoom_c W false A B n c m d k x g _ (hN.later hW) (hg.later hW) hs hx⟩
  rw [← hl]
  clear hlen hN hg hs HE hf hl hS h2
  go_enter Tryd.func33, Tryd.ntmps33
  go_wp2_with (first
    | (go_at_call 31; (with_reducible refine (entries_kids _ _ _ _ _ _ _).mono ?_); rintro e w1 ⟨rfl, ho⟩; have HO1 := Lib.hid (on_new HO.out ho); (replace HN0 := Lib.hid ((HN0.out.later ho).alloc (.cells #[.int .i64 m, .func (.func 62) #[.agg #[.bool false, .slice A n c, .slice B m d]] #[], .func (.func 63) #[.agg #[.bool false, .slice A n c, .slice B m d]] #[], .func (.func 64) #[.agg #[.bool false, .slice A n c, .slice B m d]] #[]] 74))); (obtain ⟨z0, z1, z2⟩ := HN0.out.three); have HB := Lib.hid (Blk.new w1 74 [.int .i64 m, .func (.func 62) #[.agg #[.bool false, .slice A n c, .slice B m d]] #[], .func (.func 63) #[.agg #[.bool false, .slice A n c, .slice B m d]] #[], .func (.func 64) #[.agg #[.bool false, .slice A n c, .slice B m d]] #[]]); have HO2 := Lib.hid (HO1.out.alloc (fun _ h => h) (.cells #[.int .i64 m, .func (.func 62) #[.agg #[.bool false, .slice A n c, .slice B m d]] #[], .func (.func 63) #[.agg #[.bool false, .slice A n c, .slice B m d]] #[], .func (.func 64) #[.agg #[.bool false, .slice A n c, .slice B m d]] #[]] 74)); clear ho; unfold kidsEnt)
    | (go_at_call 28; (with_reducible refine (HRM.out _ HO2.out).mono ?_); rintro e w2 ⟨rfl, ho⟩; (replace HB := Lib.hid (HB.out.later ho)); have HO3 := Lib.hid (on_new HO2.out ho); clear ho))
  go_loopw [7, 8] (fun s i wr => ∃ (q : Nat) (t : Int), q + 1 ≤ m ∧ 0 ≤ t ∧ t ≤ q * 20000 ∧ s = .int .i64 t ∧ i = .int .i64 ((q : Int) + 1) ∧ Hid (t = pre l q) ∧ Hid (∀ j, 1 ≤ j → j < q + 1 → 2 * pre l j < l.sum) ∧ Only (w2.heap.size ≤ ·) w2 wr) (fun _ i _ => m - (intOf i).toNat)
  case atStart => exact ⟨0, 0, by omega, by omega, by omega, rfl, rfl, rfl, fun j h1 h2 => by omega, Only.refl _ _⟩
  case round =>
    obtain ⟨q, t, hk, ht0, ht, rfl, rfl, HT, HJ, ho⟩ := hrel
    have HOR := Lib.hid (on_new HO3.out ho)
    have HBR := Lib.hid (HB.out.later ho)
    have HOL := Lib.hid ho
    clear ho HB
    by_cases hlt : q + 1 < m
    · obtain ⟨a, hla, ha0, ha1, hcall⟩ := HR.out q (by omega)
      have HX := Lib.hid (pre_succ hla)
      have HC := Lib.hid hcall
      clear hla hcall
      obtain ⟨b0, b1, b2, b3⟩ := HBR.out.four
      have hlti : (q : Int) + 1 < (m : Int) := by omega
      by_cases hle : S ≤ 2 * (t + a)
      · go_wp2_with (go_at_call 63; (with_reducible refine (HC.out _ HOR.out).mono ?_); rintro e w3 ⟨rfl, ho⟩; have HO3 := Lib.hid (on_new HOR.out ho); clear ho)
        go_ret
        exact ⟨q + 1, rfl, ⟨by omega, by rw [← HLEN.out]; exact hlt, HJ.out, .inl (by rw [← HS.out, HX.out, ← HT.out]; exact hle)⟩, HO3.out⟩
      · have hle' : ¬ S ≤ 2 * (t + a) := hle
        go_wp2_with (go_at_call 63; (with_reducible refine (HC.out _ HOR.out).mono ?_); rintro e w3 ⟨rfl, ho⟩; have HO3 := Lib.hid (on_new HOL.out ho); clear ho)
        go_roundw
        case rel => exact ⟨q + 1, t + a, by omega, by omega, by omega, rfl, by go_num, Lib.hid (by rw [HX.out, ← HT.out]), Lib.hid (fun j h1 h2 => by
          by_cases e : j = q + 1
          · rw [e, HX.out, ← HT.out, ← HS.out]; omega
          · exact HJ.out j h1 (by omega)), HO3.out⟩
        case measure => simp [intOf]; omega
    · obtain rfl : q + 1 = m := by omega
      obtain ⟨b0, b1, b2, b3⟩ := HBR.out.four
      go_wp2
      go_ret
      exact ⟨q, rfl, ⟨by omega, by rw [← HLEN.out]; omega, fun j h1 h2 => HJ.out j h1 (by omega), .inr HLEN.out⟩, HOR.out⟩

theorem mid_n (f : Bool) (hN : Nod w x f (.slice A n c) (.slice B m d)) (hg : Gens w) (hs : Small x) (h2 : 2 ≤ many x) :
    Calls Tryd.prog 33 #[.int .i64 g, .agg #[.bool f, .slice A n c, .slice B m d]] w (Mid w (rms g x)) := by
  obtain hf := hN.1
  cases f
  · exact mid_entries_kids w A B n c m d x g hf.symm hN hg hs h2
  · exact mid_entries_leaf w A B n c m d x g hf.symm hN hg hs h2
end
end Go.Proofs.YtjbbljnfgpggkaaDoor
