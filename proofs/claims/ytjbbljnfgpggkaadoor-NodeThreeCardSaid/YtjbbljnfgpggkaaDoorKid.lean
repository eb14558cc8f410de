/-
  A branch that may be; the side on which a key is: where the answer is yes.
-/
import Derived.Test.YtjbbljnfgpggkaaDoorNrm
import Derived.Test.YtjbbljnfgpggkaaDoorCmp
import Derived.Test.YtjbbljnfgpggkaaDoorCpy
set_option linter.unusedVariables false
namespace Go.Proofs.YtjbbljnfgpggkaaDoor
open Go.RowKit
attribute [local go_sem] run_store_func

def KidOk (g : Int) (k : Nat) (y : Kd) : Prop := 2 ≤ y.2 ∧ y.2 < 16384 ∧ (k = 0 → y.1 = []) ∧ (k ≠ 0 → 1 ≤ y.1.length ∧ (y.1.length : Int) ≤ tr g 16 20 24)
section
variable (w : World) (A B : Option Addr) (n c m d : Nat) (x : Nd) (g : Int)
set_option maxRecDepth 100000 in
set_option maxHeartbeats 6400000 in
theorem kidRight_yes (k : Nat) (y : Kd) (hN : Nod w x false (.slice A n c) (.slice B m d)) (hg : Gens w) (hy : x.kds[k]? = some y) (hok : KidOk g k y) :
    Calls Tryd.prog 64 #[.agg #[.bool false, .slice A n c, .slice B m d], .int .i64 g, .int .i64 k] w (Told w (.bool true)) := by
  have hkn : k < m := by rw [hN.2.2.len]; exact (List.getElem?_eq_some_iff.1 hy).1
  have hcap := hN.2.2.cap
  obtain ⟨b, off, y', P, p, rfl, hb, hy', q0, q1, _⟩ := kds_at hN.2.2 hkn
  obtain rfl : y' = y := Option.some.inj (hy'.symm.trans hy)
  obtain ⟨xs, r⟩ := y'
  obtain ⟨t, ht⟩ : ∃ t, t = xs.length := ⟨_, rfl⟩
  obtain ⟨v, hv⟩ : ∃ v, v = tr g 16 20 24 := ⟨_, rfl⟩
  simp only at q0 q1
  rw [← ht] at q0
  have hr1 : 2 ≤ r := hok.1
  have hr2 : r < 16384 := hok.2.1
  have h0 : k = 0 → t = 0 := fun h => by rw [ht, show xs = [] from hok.2.2.1 h]; rfl
  have h1 : k ≠ 0 → 1 ≤ t ∧ (t : Int) ≤ v := fun h => by rw [ht, hv]; exact hok.2.2.2 h
  obtain ⟨W1, hW1⟩ : ∃ W1, W1 = ((w.alloc (.cells #[.bool false, .slice A n c, .slice (some ⟨b, off, none⟩) m d] 34)).alloc (.cells #[.slice P t p, .int .i64 r] 58)) := ⟨_, rfl⟩
  have HO : Hid (Only (w.heap.size ≤ ·) w W1) := Lib.hid (by rw [hW1]; exact ((Only.refl _ w).alloc (fun _ h => h) _).alloc (fun _ h => h) _)
  have HK : Hid (Blk W1 (w.heap.size + 1) 58 [.slice P t p, .int .i64 r]) := Lib.hid (by
    rw [hW1]
    have := Blk.new (w.alloc (.cells #[.bool false, .slice A n c, .slice (some ⟨b, off, none⟩) m d] 34)) 58 [.slice P t p, .int .i64 r]
    simpa using this)
  have HMK : Hid (∀ W, Only (w.heap.size ≤ ·) w W → Calls Tryd.prog 77 #[.int .i64 g] W (Told W (.int .i64 v))) := fun W hW => by rw [hv]; exact MaxKey_c W g (hg.later hW)
  have HB := Lib.hid hb
  have u0 : (w.alloc (.cells #[.bool false, .slice A n c, .slice (some ⟨b, off, none⟩) m d] 34)).cell? ⟨b, off + k * 2, none⟩ = some (.slice P t p) := (((Only.refl (w.heap.size ≤ ·) w).alloc (fun _ h => h) _).cell (p := ⟨b, off + k * 2, none⟩) (Nat.not_le.2 hb)).trans q0
  have u1 : (w.alloc (.cells #[.bool false, .slice A n c, .slice (some ⟨b, off, none⟩) m d] 34)).cell? ⟨b, off + k * 2 + 1, none⟩ = some (.int .i64 r) := (((Only.refl (w.heap.size ≤ ·) w).alloc (fun _ h => h) _).cell (p := ⟨b, off + k * 2 + 1, none⟩) (Nat.not_le.2 hb)).trans q1
  have HW1 := Lib.hid hW1
  have j1 : (0 : Int) ≤ (k : Int) := by omega
  have j2 : (k : Int) < (m : Int) := by omega
  have KP : Hid (∀ w' : World, Only (W1.heap.size ≤ ·) W1 w' → w'.cell? ⟨w.heap.size + 1, 0, none⟩ = some (.slice P t p)) := fun W hW => (HK.out.later hW).cell 0
  clear hN hg hy hy' hok ht hv hb q0 q1 hW1
  by_cases hk0 : k = 0
  · have ht0 : ((t : Int) == 0) = true := by rw [h0 hk0]; rfl
    have hkb : ((k : Int) == 0) = true := by rw [hk0]; rfl
    clear h0 h1 hk0
    rw [HW1.out] at HO
    go_enter Tryd.func64, Tryd.ntmps64
    go_wp2
    go_ret
    first | exact ⟨rfl, HO.out⟩ | exact ⟨congrArg (fun x => Ending.returned (.bool x)) ht0, HO.out⟩
  · have hkb : ((k : Int) == 0) = false := by simpa using hk0
    obtain ⟨ht1, ht2⟩ := h1 hk0
    clear h0 h1 hk0
    go_enter Tryd.func64, Tryd.ntmps64
    go_wp2_with (fail)
    rw [← HW1.out]
    clear HW1 u0 u1
    have HOZ : Hid (Only (W1.heap.size ≤ ·) W1 W1.drew) := (Only.refl _ _).drew
    have hd1 : decide (1 ≤ (t : Int)) = true := decide_eq_true (by omega)
    refine wp_region_held_drew (S := (fun w' => w'.cell? ⟨w.heap.size + 1, 0, none⟩ = some (.slice P t p))) (by kernel_rfl) (KP.out _ HOZ.out) (fun hHeld => ?_)
    refine take_one (i := 0) (d := 27) (oi := ?_) (v := ?_) ?_ (by kernel_rfl) (by kernel_rfl) (by kernel_rfl) (fun _ _ _ h => h) ?_ ?_ ?_ (by assumption) ?_
    case refine_3 => (simp only [List.getElem?_toArray, List.getElem?_cons_zero]; rfl)
    case refine_4 => rfl
    case refine_5 => rfl
    case refine_6 => (intro w' hSw; (try dsimp only at hSw); go_simp; (try with_reducible rfl))
    simp only [Act.put, List.setIfInBounds_toArray, List.set_cons_zero, List.set_cons_succ]
    refine take_one (i := 1) (d := 28) (oi := ?_) (v := ?_) ?_ (by kernel_rfl) (by kernel_rfl) (by kernel_rfl) (fun _ _ _ h => h) ?_ ?_ ?_ (by assumption) ?_
    case refine_3 => (simp only [List.getElem?_toArray, List.getElem?_cons_succ, List.getElem?_cons_zero]; rfl)
    case refine_4 => rfl
    case refine_5 => rfl
    case refine_6 => (intro w' hSw; (try dsimp only at hSw); go_simp; (try with_reducible rfl))
    simp only [Act.put, List.setIfInBounds_toArray, List.set_cons_zero, List.set_cons_succ]
    refine take_one (i := 2) (d := 29) (oi := ?_) (v := ?_) ?_ (by kernel_rfl) (by kernel_rfl) (by kernel_rfl) (fun _ _ _ h => h) ?_ ?_ ?_ (by assumption) ?_
    case refine_3 => (simp only [List.getElem?_toArray, List.getElem?_cons_succ, List.getElem?_cons_zero]; rfl)
    case refine_4 => rfl
    case refine_5 => rfl
    case refine_6 => (intro w' hSw; (try dsimp only at hSw); go_simp; (try with_reducible rfl))
    simp only [Act.put, List.setIfInBounds_toArray, List.set_cons_zero, List.set_cons_succ]
    refine take_one (i := 3) (d := 30) (oi := ?_) (v := ?_) ?_ (by kernel_rfl) (by kernel_rfl) (by kernel_rfl) (fun _ _ _ h => h) ?_ ?_ ?_ (by assumption) ?_
    case refine_3 => (simp only [List.getElem?_toArray, List.getElem?_cons_succ, List.getElem?_cons_zero]; rfl)
    case refine_4 => rfl
    case refine_5 => rfl
    case refine_6 => (intro w' hSw; (try dsimp only at hSw); go_simp; (try with_reducible rfl))
    simp only [Act.put, List.setIfInBounds_toArray, List.set_cons_zero, List.set_cons_succ]
    refine take_one (i := 4) (d := 31) (oi := ?_) (v := ?_) ?_ (by kernel_rfl) (by kernel_rfl) (by kernel_rfl) (fun _ _ _ h => h) ?_ ?_ ?_ (by assumption) ?_
    case refine_3 => (simp only [List.getElem?_toArray, List.getElem?_cons_succ, List.getElem?_cons_zero]; rfl)
    case refine_4 => rfl
    case refine_5 => rfl
    case refine_6 => (intro w' hSw; (try dsimp only at hSw); go_simp; (try with_reducible rfl))
    simp only [Act.put, List.setIfInBounds_toArray, List.set_cons_zero, List.set_cons_succ]
    refine take_one (i := 5) (d := 32) (oi := ?_) (v := ?_) ?_ (by kernel_rfl) (by kernel_rfl) (by kernel_rfl) (fun _ _ _ h => h) ?_ ?_ ?_ (by assumption) ?_
    case refine_3 => (simp only [List.getElem?_toArray, List.getElem?_cons_succ, List.getElem?_cons_zero]; rfl)
    case refine_4 => rfl
    case refine_5 => rfl
    case refine_6 => (intro w' hSw; (try dsimp only at hSw); go_simp; (try with_reducible rfl))
    simp only [Act.put, List.setIfInBounds_toArray, List.set_cons_zero, List.set_cons_succ]
    refine take_one (i := 6) (d := 33) (oi := ?_) (v := ?_) ?_ (by kernel_rfl) (by kernel_rfl) (by kernel_rfl) (fun _ _ _ h => h) ?_ ?_ ?_ (by assumption) ?_
    case refine_3 => (simp only [List.getElem?_toArray, List.getElem?_cons_succ, List.getElem?_cons_zero]; rfl)
    case refine_4 => rfl
    case refine_5 => rfl
    case refine_6 => (intro w' hSw; (try dsimp only at hSw); go_simp; (try with_reducible rfl))
    simp only [Act.put, List.setIfInBounds_toArray, List.set_cons_zero, List.set_cons_succ]
    refine take_one (i := 7) (d := 34) (oi := ?_) (v := ?_) ?_ (by kernel_rfl) (by kernel_rfl) (by kernel_rfl) (fun _ _ _ h => h) ?_ ?_ ?_ (by assumption) ?_
    case refine_3 => (simp only [List.getElem?_toArray, List.getElem?_cons_succ, List.getElem?_cons_zero]; rfl)
    case refine_4 => rfl
    case refine_5 => rfl
    case refine_6 => (intro w' hSw; (try dsimp only at hSw); go_simp; (try with_reducible rfl))
    simp only [Act.put, List.setIfInBounds_toArray, List.set_cons_zero, List.set_cons_succ]
    refine take_one (i := 8) (d := 35) (oi := ?_) (v := ?_) ?_ (by kernel_rfl) (by kernel_rfl) (by kernel_rfl) (fun _ _ _ h => h) ?_ ?_ ?_ (by assumption) ?_
    case refine_3 => (simp only [List.getElem?_toArray, List.getElem?_cons_succ, List.getElem?_cons_zero]; rfl)
    case refine_4 => rfl
    case refine_5 => rfl
    case refine_6 => (intro w' hSw; (try dsimp only at hSw); go_simp; (try with_reducible rfl))
    simp only [Act.put, List.setIfInBounds_toArray, List.set_cons_zero, List.set_cons_succ]
    refine wpAnyH_ready (rs := [9]) (by kernel_rfl) (by simp) ?_
    refine AllReadyH.cons (o := ?_) ?_ (fun K hK => ?_) AllReadyH.nil
    case refine_2 => (simp only [List.getElem?_toArray, List.getElem?_cons_succ, List.getElem?_cons_zero]; rfl)
    go_simp
    (go_at_call 77; (with_reducible refine (HMK.out _ (on_new HO.out HOZ.out)).mono ?_); rintro e w1 ⟨rfl, ho⟩; (replace HOZ := Lib.hid (on_new HOZ.out ho)); clear ho)
    go_wp2_with (fail)
    refine hK.out _ _ (KP.out _ HOZ.out) (fun hHeld => ?_)
    clear hK K
    try simp only [Act.put, List.setIfInBounds_toArray, List.set_cons_zero, List.set_cons_succ]
    refine take_one (i := 10) (d := 37) (oi := ?_) (v := ?_) ?_ (by kernel_rfl) (by kernel_rfl) (by kernel_rfl) (fun _ _ _ h => h) ?_ ?_ ?_ (by assumption) ?_
    case refine_3 => (simp only [List.getElem?_toArray, List.getElem?_cons_succ, List.getElem?_cons_zero]; rfl)
    case refine_4 => rfl
    case refine_5 => rfl
    case refine_6 => (intro w' hSw; (try dsimp only at hSw); go_simp; (try with_reducible rfl))
    simp only [Act.put, List.setIfInBounds_toArray, List.set_cons_zero, List.set_cons_succ]
    refine take_one (i := 11) (d := 38) (oi := ?_) (v := ?_) ?_ (by kernel_rfl) (by kernel_rfl) (by kernel_rfl) (fun _ _ _ h => h) ?_ ?_ ?_ (by assumption) ?_
    case refine_3 => (simp only [List.getElem?_toArray, List.getElem?_cons_succ, List.getElem?_cons_zero]; rfl)
    case refine_4 => rfl
    case refine_5 => rfl
    case refine_6 => (intro w' hSw; (try dsimp only at hSw); go_simp; (try with_reducible rfl))
    simp only [Act.put, List.setIfInBounds_toArray, List.set_cons_zero, List.set_cons_succ]
    refine take_one (i := 12) (d := 6) (oi := ?_) (v := ?_) ?_ (by kernel_rfl) (by kernel_rfl) (by kernel_rfl) (fun _ _ _ h => h) ?_ ?_ ?_ (by assumption) ?_
    case refine_3 => (simp only [List.getElem?_toArray, List.getElem?_cons_succ, List.getElem?_cons_zero]; rfl)
    case refine_4 => rfl
    case refine_5 => rfl
    case refine_6 => (intro w' hSw; (try dsimp only at hSw); go_simp; (try with_reducible rfl))
    simp only [Act.put, List.setIfInBounds_toArray, List.set_cons_zero, List.set_cons_succ]
    refine wpAnyH_done (by kernel_rfl) ?_ _
    go_wp2
    go_ret
    first | exact ⟨rfl, on_new HO.out HOZ.out⟩ | exact ⟨congrArg (fun x => Ending.returned (.bool x)) (decide_eq_true ht2), on_new HO.out HOZ.out⟩

set_option maxHeartbeats 3200000 in
theorem pure_yes (hn : n = 0) (hm : 0 < m) : Calls Tryd.prog 57 #[.agg #[.bool false, .slice A n c, .slice B m d]] w (Told w (.bool true)) := by
  have HO : Hid (Only (w.heap.size ≤ ·) w (w.alloc (.cells #[.bool false, .slice A n c, .slice B m d] 34))) := (Only.refl _ w).alloc (fun _ h => h) _
  have hnb : ((n : Int) == 0) = true := by rw [hn]; rfl
  have hmi : (0 : Int) < (m : Int) := by omega
  clear hn
  go_enter Tryd.func57, Tryd.ntmps57
  go_wp2
  go_ret
  exact ⟨rfl, HO.out⟩

set_option maxRecDepth 100000 in
set_option maxHeartbeats 6400000 in
theorem rises_yes (hN : Nod w x false (.slice A n c) (.slice B m d)) (hs : Small x) (hr : ∀ k y z, x.kds[k]? = some y → x.kds[k + 1]? = some z → cmp y.1 z.1 < 0) : Calls Tryd.prog 58 #[.agg #[.bool false, .slice A n c, .slice B m d]] w (Told w (.bool true)) := by
  have HO : Hid (Only (w.heap.size ≤ ·) w (w.alloc (.cells #[.bool false, .slice A n c, .slice B m d] 34))) := (Only.refl _ w).alloc (fun _ h => h) _
  have hm1 : m ≤ 1000 := by rw [hN.2.2.len]; exact hs.2.1
  have HR : Hid (∀ (k : Nat), k + 1 < m → ∃ (xs ys : Bytes) (z : Int), z < 0 ∧ (∀ W, Only (w.heap.size ≤ ·) w W → Calls Tryd.prog 62 #[.agg #[.bool false, .slice A n c, .slice B m d], .int .i64 k] W (Gave W xs)) ∧ (∀ W, Only (w.heap.size ≤ ·) w W → Calls Tryd.prog 62 #[.agg #[.bool false, .slice A n c, .slice B m d], .int .i64 ((k : Int) + 1)] W (Gave W ys)) ∧ (∀ W v u, Src W v xs → Src W u ys → Calls Tryd.prog 55 #[v, u] W fun e w' => e = .returned (.int .i64 z) ∧ W = w')) := fun k hk => by
    have hl := hN.2.2.len
    obtain ⟨y, hy⟩ : ∃ y, x.kds[k]? = some y := ⟨_, List.getElem?_eq_getElem (by omega)⟩
    obtain ⟨z, hz⟩ : ∃ z, x.kds[k + 1]? = some z := ⟨_, List.getElem?_eq_getElem (by omega)⟩
    exact ⟨y.1, z.1, _, hr k y z hy hz, fun W hW => kidKey_c W false A B n c m d k x y (hN.later hW) hy, fun W hW => kidKey_c W false A B n c m d (k + 1) x z (hN.later hW) hz, fun W v u h1 h2 => Compare_c W v u y.1 z.1 h1 h2⟩
  clear hN hs hr
  go_enter Tryd.func58, Tryd.ntmps58
  go_wp2_with (go_at_call 31; (with_reducible refine (entries_kids _ _ _ _ _ _ _).mono ?_); rintro e w1 ⟨rfl, ho⟩; have HO1 := Lib.hid (on_new HO.out ho); have HB := Lib.hid (Blk.new w1 74 [.int .i64 m, .func (.func 62) #[.agg #[.bool false, .slice A n c, .slice B m d]] #[], .func (.func 63) #[.agg #[.bool false, .slice A n c, .slice B m d]] #[], .func (.func 64) #[.agg #[.bool false, .slice A n c, .slice B m d]] #[]]); have HO2 := Lib.hid (HO1.out.alloc (fun _ h => h) (.cells #[.int .i64 m, .func (.func 62) #[.agg #[.bool false, .slice A n c, .slice B m d]] #[], .func (.func 63) #[.agg #[.bool false, .slice A n c, .slice B m d]] #[], .func (.func 64) #[.agg #[.bool false, .slice A n c, .slice B m d]] #[]] 74)); clear ho; unfold kidsEnt)
  go_loopw [4] (fun i wr => ∃ (q : Nat), (q + 1 ≤ m ∨ q = 0) ∧ i = .int .i64 ((q : Int) + 1) ∧ Only ((w1.alloc (.cells #[.int .i64 m, .func (.func 62) #[.agg #[.bool false, .slice A n c, .slice B m d]] #[], .func (.func 63) #[.agg #[.bool false, .slice A n c, .slice B m d]] #[], .func (.func 64) #[.agg #[.bool false, .slice A n c, .slice B m d]] #[]] 74)).heap.size ≤ ·) (w1.alloc (.cells #[.int .i64 m, .func (.func 62) #[.agg #[.bool false, .slice A n c, .slice B m d]] #[], .func (.func 63) #[.agg #[.bool false, .slice A n c, .slice B m d]] #[], .func (.func 64) #[.agg #[.bool false, .slice A n c, .slice B m d]] #[]] 74)) wr) (fun i _ => m - (intOf i).toNat)
  case atStart => exact ⟨0, .inr rfl, rfl, Only.refl _ _⟩
  case round =>
    obtain ⟨q, hk, rfl, ho⟩ := hrel
    have HOR := Lib.hid (on_new HO2.out ho)
    have HBR := Lib.hid (HB.out.later ho)
    have HOL := Lib.hid ho
    clear ho HB
    obtain ⟨b0, b1, b2, b3⟩ := HBR.out.four
    by_cases hlt : q + 1 < m
    · obtain ⟨xs, ys, z, hz, h1, h2, h3⟩ := HR.out q hlt
      have HH := Lib.hid (And.intro h1 (And.intro h2 h3))
      have hlti : (q : Int) + 1 < (m : Int) := by omega
      clear h1 h2 h3
      go_wp2_with (fail)
      have HOZ : Hid (Only (wr.heap.size ≤ ·) wr wr.drew) := (Only.refl _ _).drew
      have KP : Hid (∀ w' : World, Only (wr.heap.size ≤ ·) wr w' → w'.cell? ⟨w1.heap.size, 1, none⟩ = some (.func (.func 62) #[.agg #[.bool false, .slice A n c, .slice B m d]] #[])) := fun W hW => (HBR.out.later hW).four.2.1
      have hw1 : IntKind.i64.wrap (q : Int) = (q : Int) := IntWalk.i64_in _ (by omega)
      clear b0 b1 b2 b3
      refine wp_region_held_drew (S := (fun w' => w'.cell? ⟨w1.heap.size, 1, none⟩ = some (.func (.func 62) #[.agg #[.bool false, .slice A n c, .slice B m d]] #[]))) (by kernel_rfl) (KP.out _ HOZ.out) (fun hHeld => ?_)
      refine take_one (i := 0) (d := 13) (oi := ?_) (v := ?_) ?_ (by kernel_rfl) (by kernel_rfl) (by kernel_rfl) (fun _ _ _ h => h) ?_ ?_ ?_ (by assumption) ?_
      case refine_3 => (simp only [List.getElem?_toArray, List.getElem?_cons_zero]; rfl)
      case refine_4 => rfl
      case refine_5 => rfl
      case refine_6 => (intro w' hSw; (try dsimp only at hSw); go_simp; (try with_reducible rfl))
      simp only [Act.put, List.setIfInBounds_toArray, List.set_cons_zero, List.set_cons_succ]
      refine take_one (i := 1) (d := 14) (oi := ?_) (v := ?_) ?_ (by kernel_rfl) (by kernel_rfl) (by kernel_rfl) (fun _ _ _ h => h) ?_ ?_ ?_ (by assumption) ?_
      case refine_3 => (simp only [List.getElem?_toArray, List.getElem?_cons_succ, List.getElem?_cons_zero]; rfl)
      case refine_4 => rfl
      case refine_5 => rfl
      case refine_6 => (intro w' hSw; (try dsimp only at hSw); go_simp; (try with_reducible rfl))
      simp only [Act.put, List.setIfInBounds_toArray, List.set_cons_zero, List.set_cons_succ]
      refine take_one (i := 2) (d := 15) (oi := ?_) (v := ?_) ?_ (by kernel_rfl) (by kernel_rfl) (by kernel_rfl) (fun _ _ _ h => h) ?_ ?_ ?_ (by assumption) ?_
      case refine_3 => (simp only [List.getElem?_toArray, List.getElem?_cons_succ, List.getElem?_cons_zero]; rfl)
      case refine_4 => rfl
      case refine_5 => rfl
      case refine_6 => (intro w' hSw; (try dsimp only at hSw); go_simp; (try with_reducible rfl))
      simp only [Act.put, List.setIfInBounds_toArray, List.set_cons_zero, List.set_cons_succ]
      refine take_one (i := 3) (d := 16) (oi := ?_) (v := ?_) ?_ (by kernel_rfl) (by kernel_rfl) (by kernel_rfl) (fun _ _ _ h => h) ?_ ?_ ?_ (by assumption) ?_
      case refine_3 => (simp only [List.getElem?_toArray, List.getElem?_cons_succ, List.getElem?_cons_zero]; rfl)
      case refine_4 => rfl
      case refine_5 => rfl
      case refine_6 => (intro w' hSw; (try dsimp only at hSw); go_simp; (try with_reducible rfl))
      simp only [Act.put, List.setIfInBounds_toArray, List.set_cons_zero, List.set_cons_succ]
      refine take_one (i := 5) (d := 18) (oi := ?_) (v := ?_) ?_ (by kernel_rfl) (by kernel_rfl) (by kernel_rfl) (fun _ _ _ h => h) ?_ ?_ ?_ (by assumption) ?_
      case refine_3 => (simp only [List.getElem?_toArray, List.getElem?_cons_succ, List.getElem?_cons_zero]; rfl)
      case refine_4 => rfl
      case refine_5 => rfl
      case refine_6 => (intro w' hSw; (try dsimp only at hSw); go_simp; (try with_reducible rfl))
      simp only [Act.put, List.setIfInBounds_toArray, List.set_cons_zero, List.set_cons_succ]
      refine take_one (i := 6) (d := 19) (oi := ?_) (v := ?_) ?_ (by kernel_rfl) (by kernel_rfl) (by kernel_rfl) (fun _ _ _ h => h) ?_ ?_ ?_ (by assumption) ?_
      case refine_3 => (simp only [List.getElem?_toArray, List.getElem?_cons_succ, List.getElem?_cons_zero]; rfl)
      case refine_4 => rfl
      case refine_5 => rfl
      case refine_6 => (intro w' hSw; (try dsimp only at hSw); go_simp; (try with_reducible rfl))
      simp only [Act.put, List.setIfInBounds_toArray, List.set_cons_zero, List.set_cons_succ]
      refine take_one (i := 7) (d := 20) (oi := ?_) (v := ?_) ?_ (by kernel_rfl) (by kernel_rfl) (by kernel_rfl) (fun _ _ _ h => h) ?_ ?_ ?_ (by assumption) ?_
      case refine_3 => (simp only [List.getElem?_toArray, List.getElem?_cons_succ, List.getElem?_cons_zero]; rfl)
      case refine_4 => rfl
      case refine_5 => rfl
      case refine_6 => (intro w' hSw; (try dsimp only at hSw); go_simp; (try with_reducible rfl))
      simp only [Act.put, List.setIfInBounds_toArray, List.set_cons_zero, List.set_cons_succ]
      refine wpAnyH_ready (rs := [4]) (by kernel_rfl) (by simp) ?_
      refine AllReadyH.cons (o := ?_) ?_ (fun K hK => ?_) AllReadyH.nil
      case refine_2 => (simp only [List.getElem?_toArray, List.getElem?_cons_succ, List.getElem?_cons_zero]; rfl)
      go_simp
      (go_at_call 62; (with_reducible refine (HH.out.1 _ (on_new HOR.out HOZ.out)).mono ?_); rintro e w3 ⟨P1, p1, rfl, hs1, ho⟩; have HS1 := Lib.hid hs1; (replace HOZ := Lib.hid (on_new HOZ.out ho)); clear ho hs1)
      go_wp2_with (fail)
      refine hK.out _ _ (KP.out _ HOZ.out) (fun hHeld => ?_)
      clear hK K
      try simp only [Act.put, List.setIfInBounds_toArray, List.set_cons_zero, List.set_cons_succ]
      refine wpAnyH_ready (rs := [8]) (by kernel_rfl) (by simp) ?_
      refine AllReadyH.cons (o := ?_) ?_ (fun K hK => ?_) AllReadyH.nil
      case refine_2 => (simp only [List.getElem?_toArray, List.getElem?_cons_succ, List.getElem?_cons_zero]; rfl)
      go_simp
      (go_at_call 62; (with_reducible refine (HH.out.2.1 _ (on_new HOR.out HOZ.out)).mono ?_); rintro e w4 ⟨P2, p2, rfl, hs2, ho⟩; (replace HS1 := Lib.hid (HS1.out.later ho)); have HS2 := Lib.hid hs2; (replace HOZ := Lib.hid (on_new HOZ.out ho)); clear ho hs2)
      go_wp2_with (fail)
      refine hK.out _ _ (KP.out _ HOZ.out) (fun hHeld => ?_)
      clear hK K
      try simp only [Act.put, List.setIfInBounds_toArray, List.set_cons_zero, List.set_cons_succ]
      refine wpAnyH_ready (rs := [9]) (by kernel_rfl) (by simp) ?_
      refine AllReadyH.cons (o := ?_) ?_ (fun K hK => ?_) AllReadyH.nil
      case refine_2 => (simp only [List.getElem?_toArray, List.getElem?_cons_succ, List.getElem?_cons_zero]; rfl)
      go_simp
      (go_at_call 55; (with_reducible refine (HH.out.2.2 _ _ _ HS1.out HS2.out).mono ?_); rintro e w' ⟨rfl, rfl⟩)
      go_wp2_with (fail)
      refine hK.out _ _ (KP.out _ HOZ.out) (fun hHeld => ?_)
      clear hK K
      try simp only [Act.put, List.setIfInBounds_toArray, List.set_cons_zero, List.set_cons_succ]
      refine take_one (i := 10) (d := 23) (oi := ?_) (v := ?_) ?_ (by kernel_rfl) (by kernel_rfl) (by kernel_rfl) (fun _ _ _ h => h) ?_ ?_ ?_ (by assumption) ?_
      case refine_3 => (simp only [List.getElem?_toArray, List.getElem?_cons_succ, List.getElem?_cons_zero]; rfl)
      case refine_4 => rfl
      case refine_5 => rfl
      case refine_6 => (intro w' hSw; (try dsimp only at hSw); go_simp; (try with_reducible rfl))
      simp only [Act.put, List.setIfInBounds_toArray, List.set_cons_zero, List.set_cons_succ]
      refine wpAnyH_done (by kernel_rfl) ?_ _
      have hz2 : ¬ 0 ≤ z := by omega
      clear hw1
      go_wp2
      go_roundw
      case rel => exact ⟨q + 1, .inl (by omega), by go_num, on_new HOL.out HOZ.out⟩
      case measure => simp [intOf]; omega
    · have hlti : ¬ (q : Int) + 1 < (m : Int) := by omega
      go_wp2
      go_ret
      exact ⟨rfl, HOR.out⟩

set_option maxRecDepth 100000 in
set_option maxHeartbeats 6400000 in
theorem Right_yes (hN : Nod w x false (.slice A n c) (.slice B m d)) (hg : Gens w) (hs : Small x) (hgen : gen g = true) (hi : x.its = []) (hk : x.kds ≠ []) (hok : ∀ k y, x.kds[k]? = some y → KidOk g k y) (hr : ∀ k y z, x.kds[k]? = some y → x.kds[k + 1]? = some z → cmp y.1 z.1 < 0) (hf : nfit g x = true) :
    Calls Tryd.prog 27 #[.int .i64 g, .agg #[.bool false, .slice A n c, .slice B m d]] w (Told w (.bool true)) := by
  have HO : Hid (Only (w.heap.size ≤ ·) w (w.alloc (.cells #[.bool false, .slice A n c, .slice B m d] 34))) := (Only.refl _ w).alloc (fun _ h => h) _
  have HI : Hid (Blk (w.alloc (.cells #[.bool false, .slice A n c, .slice B m d] 34)) w.heap.size 34 [.bool false, .slice A n c, .slice B m d]) := Blk.new w 34 _
  have hm1 : m ≤ 1000 := by rw [hN.2.2.len]; exact hs.2.1
  have hn0 : n = 0 := by rw [hN.2.1.len, hi]; rfl
  have hm0 : 0 < m := by
    rw [hN.2.2.len]
    cases hq : x.kds with
    | nil => exact absurd hq hk
    | cons _ _ => simp
  have HGN : Hid (∀ W, Calls Tryd.prog 56 #[.int .i64 g] W fun e w' => e = .returned (.bool true) ∧ W = w') := fun W => by rw [← hgen]; exact Gen_c W g
  have HP : Hid (∀ W, Calls Tryd.prog 57 #[.agg #[.bool false, .slice A n c, .slice B m d]] W (Told W (.bool true))) := fun W => pure_yes W A B n c m d hn0 hm0
  have HRI : Hid (∀ W, Only (w.heap.size ≤ ·) w W → Calls Tryd.prog 58 #[.agg #[.bool false, .slice A n c, .slice B m d]] W (Told W (.bool true))) := fun W hW => rises_yes W A B n c m d x (hN.later hW) hs hr
  have HFT : Hid (∀ W, Only (w.heap.size ≤ ·) w W → Calls Tryd.prog 14 #[.int .i64 g, .agg #[.bool false, .slice A n c, .slice B m d]] W (Told W (.bool true))) := fun W hW => Fits_n W A B n c m d x g false true hf (hN.later hW) (hg.later hW) hs
  have HKR : Hid (∀ W (k : Nat), k < m → Only (w.heap.size ≤ ·) w W → Calls Tryd.prog 64 #[.agg #[.bool false, .slice A n c, .slice B m d], .int .i64 g, .int .i64 k] W (Told W (.bool true))) := fun W k hkm hW => by
    have hl := hN.2.2.len
    obtain ⟨y, hy⟩ : ∃ y, x.kds[k]? = some y := ⟨_, List.getElem?_eq_getElem (by omega)⟩
    exact kidRight_yes W A B n c m d x g k y (hN.later hW) (hg.later hW) hy (hok k y hy)
  clear hN hg hs hgen hi hk hok hr hf hn0
  go_enter Tryd.func27, Tryd.ntmps27
  go_wp2_with (first
    | (go_at_call 56; (with_reducible refine (HGN.out _).mono ?_); rintro e w' ⟨rfl, rfl⟩)
    | (go_at_call 57; (with_reducible refine (HP.out _).mono ?_); rintro e w0 ⟨rfl, ho⟩; (replace HI := Lib.hid (HI.out.later ho)); (obtain ⟨i0, i1, i2⟩ := HI.out.tri); (replace HO := Lib.hid (on_new HO.out ho)); clear ho)
    | (go_at_call 31; (with_reducible refine (entries_kids _ _ _ _ _ _ _).mono ?_); rintro e w1 ⟨rfl, ho⟩; have HI1 := Lib.hid (HI.out.later ho); have HO1 := Lib.hid (on_new HO.out ho); have HB := Lib.hid (Blk.new w1 74 [.int .i64 m, .func (.func 62) #[.agg #[.bool false, .slice A n c, .slice B m d]] #[], .func (.func 63) #[.agg #[.bool false, .slice A n c, .slice B m d]] #[], .func (.func 64) #[.agg #[.bool false, .slice A n c, .slice B m d]] #[]]); have HO2 := Lib.hid (HO1.out.alloc (fun _ h => h) (.cells #[.int .i64 m, .func (.func 62) #[.agg #[.bool false, .slice A n c, .slice B m d]] #[], .func (.func 63) #[.agg #[.bool false, .slice A n c, .slice B m d]] #[], .func (.func 64) #[.agg #[.bool false, .slice A n c, .slice B m d]] #[]] 74)); have HI2 := Lib.hid (HI1.out.alloc (.cells #[.int .i64 m, .func (.func 62) #[.agg #[.bool false, .slice A n c, .slice B m d]] #[], .func (.func 63) #[.agg #[.bool false, .slice A n c, .slice B m d]] #[], .func (.func 64) #[.agg #[.bool false, .slice A n c, .slice B m d]] #[]] 74)); clear ho; unfold kidsEnt))
  go_loopw [19] (fun i wr => ∃ (k : Nat), k ≤ m ∧ i = .int .i64 k ∧ Only ((w1.alloc (.cells #[.int .i64 m, .func (.func 62) #[.agg #[.bool false, .slice A n c, .slice B m d]] #[], .func (.func 63) #[.agg #[.bool false, .slice A n c, .slice B m d]] #[], .func (.func 64) #[.agg #[.bool false, .slice A n c, .slice B m d]] #[]] 74)).heap.size ≤ ·) (w1.alloc (.cells #[.int .i64 m, .func (.func 62) #[.agg #[.bool false, .slice A n c, .slice B m d]] #[], .func (.func 63) #[.agg #[.bool false, .slice A n c, .slice B m d]] #[], .func (.func 64) #[.agg #[.bool false, .slice A n c, .slice B m d]] #[]] 74)) wr) (fun i _ => m - (intOf i).toNat)
  case atStart => exact ⟨0, Nat.zero_le _, rfl, Only.refl _ _⟩
  case round =>
    obtain ⟨k, hk, rfl, ho⟩ := hrel
    have HOR := Lib.hid (on_new HO2.out ho)
    have HBR := Lib.hid (HB.out.later ho)
    have HIR := Lib.hid (HI2.out.later ho)
    have HOL := Lib.hid ho
    clear ho HB
    obtain ⟨b0, b1, b2, b3⟩ := HBR.out.four
    obtain ⟨i0, i1, i2⟩ := HIR.out.tri
    by_cases hlt : k < m
    · go_wp2_with (go_at_call 64; (with_reducible refine (HKR.out _ k hlt HOR.out).mono ?_); rintro e w3 ⟨rfl, ho⟩; have HO3 := Lib.hid (on_new HOL.out ho); clear ho)
      go_roundw
      case rel => exact ⟨k + 1, by omega, by go_num, HO3.out⟩
      case measure => simp [intOf]; omega
    · obtain rfl : m = k := by omega
      have hkm : ¬ (m : Int) < (m : Int) := by omega
      go_wp2_with (first
        | (go_at_call 58; (with_reducible refine (HRI.out _ HOR.out).mono ?_); rintro e w4 ⟨rfl, ho⟩; (replace HOR := Lib.hid (on_new HOR.out ho)); (replace HIR := Lib.hid (HIR.out.later ho)); (obtain ⟨i0, i1, i2⟩ := HIR.out.tri); clear ho)
        | (go_at_call 14; (with_reducible refine (HFT.out _ HOR.out).mono ?_); rintro e w5 ⟨rfl, ho⟩; (replace HOR := Lib.hid (on_new HOR.out ho)); clear ho))
      go_ret
      exact ⟨rfl, HOR.out⟩

set_option maxRecDepth 100000 in
set_option maxHeartbeats 6400000 in
theorem Side_last (v : Value) (key : Bytes) (y : Kd) (q : Nat) (hN : Nod w x false (.slice A n c) (.slice B m d)) (hv : Src w v key) (hq : q + 1 = m) (h0 : 0 < q) (hy : x.kds[q]? = some y) (hc : cmp y.1 key ≤ 0) :
    Calls Tryd.prog 26 #[.agg #[.bool false, .slice A n c, .slice B m d], v] w (Told w (.int .i64 q)) := by
  have HO : Hid (Only (w.heap.size ≤ ·) w (w.alloc (.cells #[.bool false, .slice A n c, .slice B m d] 34))) := (Only.refl _ w).alloc (fun _ h => h) _
  have hcap := hN.2.2.cap
  obtain ⟨b, off, y', P, p, rfl, hb, hy', q0, q1, s1⟩ := kds_at (hN.2.2.later HO.out) (k := q) (by omega)
  obtain rfl : y' = y := Option.some.inj (hy'.symm.trans hy)
  obtain ⟨z, hz⟩ : ∃ z, z = cmp y'.1 key := ⟨_, rfl⟩
  have HC : Hid (Calls Tryd.prog 55 #[.slice P y'.1.length p, v] (w.alloc (.cells #[.bool false, .slice A n c, .slice (some ⟨b, off, none⟩) m d] 34)) fun e w' => e = .returned (.int .i64 z) ∧ (w.alloc (.cells #[.bool false, .slice A n c, .slice (some ⟨b, off, none⟩) m d] 34)) = w') := by rw [hz]; exact Compare_c _ _ _ y'.1 key s1 (hv.later HO.out)
  rw [← hz] at hc
  obtain ⟨t, ht⟩ : ∃ t, t = y'.1.length := ⟨_, rfl⟩
  rw [← ht] at q0 HC
  have hm1 : (m : Int) - 1 = (q : Int) := by omega
  have j0 : (0 : Int) < (q : Int) := by omega
  have j1 : (q : Int) < (m : Int) := by omega
  clear hN hv hy hy' s1 hz ht hq
  go_enter Tryd.func26, Tryd.ntmps26
  go_wp2
  go_loopw [5] (fun i wr => i = .int .i64 q ∧ wr = (w.alloc (.cells #[.bool false, .slice A n c, .slice (some ⟨b, off, none⟩) m d] 34))) (fun i _ => 0)
  case atStart => exact ⟨rfl, rfl⟩
  case round =>
    obtain ⟨rfl, rfl⟩ := hrel
    go_wp2_with (go_at_call 55; (refine HC.out.mono ?_); rintro e w' ⟨rfl, rfl⟩)
    go_ret
    exact ⟨rfl, HO.out⟩
end
end Go.Proofs.YtjbbljnfgpggkaaDoor
