/-
  With, Without.
-/
import Derived.Test.YtjbbljnfgpggkaaDoorFnd
import Derived.Test.YtjbbljnfgpggkaaDoorOf
import Derived.Test.YtjbbljnfgpggkaaDoorSwq
import Derived.Test.YtjbbljnfgpggkaaDoorCpy
import Derived.Test.YtjbbljnfgpggkaaDoorSlc
import Derived.Test.YtjbbljnfgpggkaaDoorCut
import Derived.RegionTactic
import Derived.BigRegion
import Derived.Deep.CutRange
set_option linter.unusedVariables false
namespace Go.Proofs.YtjbbljnfgpggkaaDoor
open Go.RowKit

/-- An item of the call's own comes back. -/
def OwnIt (w : World) (xs ys : Bytes) (s r : Int) (e : Ending) (w' : World) : Prop := ∃ P p Q q, e = .returned (.agg #[.slice P xs.length p, .slice Q ys.length q, .int .i64 s, .int .i64 r]) ∧ New w' w.heap.size (.slice P xs.length p) xs ∧ New w' w.heap.size (.slice Q ys.length q) ys ∧ Only (w.heap.size ≤ ·) w w'
set_option maxRecDepth 100000 in
set_option maxHeartbeats 6400000 in
theorem ownItem_c (w : World) (P Q : Option Addr) (t p e q : Nat) (s r : Int) (xs ys : Bytes) (h : Src w (.slice P t p) xs) (h2 : Src w (.slice Q e q) ys) (hx : xs.length ≤ 100000) (hy : ys.length ≤ 100000) :
    Calls Tryd.prog 49 #[.agg #[.slice P t p, .slice Q e q, .int .i64 s, .int .i64 r]] w (OwnIt w xs ys s r) := by
  obtain ⟨W0, hW0⟩ : ∃ W0, W0 = ((w.alloc (.cells #[.slice P t p, .slice Q e q, .int .i64 s, .int .i64 r] 56)).alloc (.cells #[.slice none 0 0, .slice none 0 0, .int .i64 0, .int .i64 0] 56)) := ⟨_, rfl⟩
  have HO : Hid (Only (w.heap.size ≤ ·) w W0) := Lib.hid (by rw [hW0]; exact ((Only.refl _ w).alloc (fun _ h => h) _).alloc (fun _ h => h) _)
  have HZ : Hid (W0.heap.size = w.heap.size + 2) := Lib.hid (by rw [hW0]; simp)
  have HI : Hid (Blk W0 w.heap.size 56 [.slice P t p, .slice Q e q, .int .i64 s, .int .i64 r]) := Lib.hid (by rw [hW0]; exact (Blk.new w 56 _).alloc _)
  have HR : Hid (Blk W0 (w.heap.size + 1) 56 [.slice none 0 0, .slice none 0 0, .int .i64 0, .int .i64 0]) := Lib.hid (by
    rw [hW0]
    have := Blk.new (w.alloc (.cells #[.slice P t p, .slice Q e q, .int .i64 s, .int .i64 r] 56)) 56 [.slice none 0 0, .slice none 0 0, .int .i64 0, .int .i64 0]
    simpa using this)
  have HC : Hid (Calls Tryd.prog 23 #[.slice P t p, .slice Q e q] W0 fun e w' => ∃ k l, e = .returned (.agg #[k, l, .int .i64 0, .int .i64 0]) ∧ New w' W0.heap.size k xs ∧ New w' W0.heap.size l ys ∧ Only (W0.heap.size ≤ ·) W0 w') := Of_c W0 _ _ xs ys (h.later HO.out) (h2.later HO.out) (by omega) (by omega)
  clear h h2
  have HW0 := Lib.hid hW0
  rw [hW0] at HC
  clear hW0
  go_enter Tryd.func49, Tryd.ntmps49
  go_wp2_with (go_at_call 23; (refine HC.out.mono ?_); rintro ee w1 ⟨k1, k2, rfl, hk1, hk2, ho⟩; (obtain ⟨A1, c1, rfl, hk1'⟩ := hk1); (obtain ⟨A2, c2, rfl, hk2'⟩ := hk2); (rw [← HW0.out] at ho hk1' hk2'); have HK := Lib.hid (And.intro hk1' hk2'); have HI1 := Lib.hid (HI.out.later ho); have HR1 := Lib.hid (HR.out.later ho); (replace HO := Lib.hid (on_new HO.out ho)); have HO1 := Lib.hid ho; (obtain ⟨i0, i1, i2, i3⟩ := (HI1.out.alloc (.cells #[.slice A1 xs.length c1, .slice A2 ys.length c2, .int .i64 0, .int .i64 0] 56)).four); clear hk1' hk2' ho)
  have ne0 : w1.heap.size ≠ w.heap.size := by have := HI1.out.lt; omega
  have ne1 : w.heap.size ≠ w1.heap.size := by omega
  have g2 : ∀ o, (w1.alloc o).cell? ⟨w.heap.size, 2, none⟩ = some (.int .i64 s) := fun o => (HI1.out.alloc o).four.2.2.1
  have g3 : ∀ o, (w1.alloc o).cell? ⟨w.heap.size, 3, none⟩ = some (.int .i64 r) := fun o => (HI1.out.alloc o).four.2.2.2
  clear i0 i1 i2 i3
  go_region
  obtain ⟨W2, hW2⟩ : ∃ W2, W2 = (w1.alloc (.cells #[.slice A1 xs.length c1, .slice A2 ys.length c2, .int .i64 s, .int .i64 r] 56)).drew := ⟨_, rfl⟩
  have hN : Blk W2 w1.heap.size 56 [.slice A1 xs.length c1, .slice A2 ys.length c2, .int .i64 s, .int .i64 r] := by rw [hW2]; exact Blk.new w1 56 _
  have hO2 : Only (w1.heap.size ≤ ·) w1 W2 := by rw [hW2]; exact ((Only.refl _ w1).alloc (fun _ h => h) _).drew
  have hR2 := HR1.out.later hO2
  rw [← hW2]
  clear hW2 g2 g3
  obtain ⟨i0, i1, i2, i3⟩ := hN.four
  obtain ⟨r0, r1, r2, r3⟩ := hR2.four
  have fr0 := hR2.frozen 0
  have fr1 := hR2.frozen 1
  have fr2 := hR2.frozen 2
  have fr3 := hR2.frozen 3
  have HN := Lib.hid hN
  have HR2 := Lib.hid hR2
  have HO2 := Lib.hid hO2
  clear hN hR2 hO2 ne0 ne1
  go_wp2
  obtain ⟨Wf, hWf⟩ : ∃ Wf, Wf = ((((W2.setCell ⟨w.heap.size + 1, 0, none⟩ (.slice A1 xs.length c1)).setCell ⟨w.heap.size + 1, 1, none⟩ (.slice A2 ys.length c2)).setCell ⟨w.heap.size + 1, 2, none⟩ (.int .i64 s)).setCell ⟨w.heap.size + 1, 3, none⟩ (.int .i64 r)) := ⟨_, rfl⟩
  have hBf : Blk Wf (w.heap.size + 1) 56 [.slice A1 xs.length c1, .slice A2 ys.length c2, .int .i64 s, .int .i64 r] := by rw [hWf]; exact (((HR2.out.set_ 0 _).set_ 1 _).set_ 2 _).set_ 3 _
  have hOs : Only (· = w.heap.size + 1) W2 Wf := by rw [hWf]; exact ((((Only.refl (· = w.heap.size + 1) _).setCell (p := ⟨w.heap.size + 1, 0, none⟩) rfl _).setCell (p := ⟨w.heap.size + 1, 1, none⟩) rfl _).setCell (p := ⟨w.heap.size + 1, 2, none⟩) rfl _).setCell (p := ⟨w.heap.size + 1, 3, none⟩) rfl _
  rw [← hWf]
  clear hWf r0 r1 r2 r3 i0 i1 i2 i3
  obtain ⟨y0, y1, y2, y3⟩ := hBf.four
  refine bodyPost_ret (v := .agg #[.slice A1 xs.length c1, .slice A2 ys.length c2, .int .i64 s, .int .i64 r]) (by simp [results, Tryd.results49, go_sem, y0, y1, y2, y3]) rfl ?_
  have hz := HZ.out
  have n1 : New w1 W0.heap.size (.slice A1 xs.length c1) xs := ⟨A1, c1, rfl, HK.out.1⟩
  have n2 : New w1 W0.heap.size (.slice A2 ys.length c2) ys := ⟨A2, c2, rfl, HK.out.2⟩
  exact ⟨A1, c1, A2, c2, rfl, ((n1.later HO2.out).keep hOs fun k hk _ e => by omega).mono (by omega), ((n2.later HO2.out).keep hOs fun k hk _ e => by omega).mono (by omega), (on_new HO.out HO2.out).trans (hOs.mono fun k hk => by omega)⟩

theorem srw_one {F : Nat → Prop} {W : World} {P Q : Option Addr} {p q : Nat} {s r : Int} {xs ys : Bytes} (hF : ∀ k, F k → k < W.heap.size) (h1 : Stab F W (fun W => Src W (.slice P xs.length p) xs)) (h2 : Stab F W (fun W => Src W (.slice Q ys.length q) ys)) :
    SRw itE F (W.alloc (.cells #[.slice P xs.length p, .slice Q ys.length q, .int .i64 s, .int .i64 r] 56)) (.slice (some ⟨W.heap.size, 0, none⟩) 1 1) [(xs, ys, s, r)] := by
  refine ⟨[.slice P xs.length p, .slice Q ys.length q, .int .i64 s, .int .i64 r], fun W' hW => ⟨?_, ?_⟩⟩
  · have hW0 : Only (fun k => F k ∨ W.heap.size ≤ k) W W' := (((Only.refl (W.heap.size ≤ ·) W).alloc (fun _ h => h) _).mono fun _ h => .inr h).trans (hW.mono fun k hk => hk.elim .inl fun hk => .inr (Nat.le_trans (by simp) hk))
    exact Den.single ⟨P, p, Q, q, rfl, h1 W' hW0, h2 W' hW0⟩
  · exact raw_stab (World.ownsRow_lit W #[.slice P xs.length p, .slice Q ys.length q, .int .i64 s, .int .i64 r] 1 (Nat.le_refl _) (by simp [maxLen]) rfl) (by simp [Value.oneCell']) hF W' hW
/-- A leaf with an item in its place. -/
def Withed (F : Nat → Prop) (w : World) (x : Nd) (y : It) (e : Ending) (w' : World) : Prop := ∃ i b, Found x.its y.1 i b ∧ GaveS F w ⟨true, x.its.take i ++ ([y] ++ x.its.drop (i + if b = true then 1 else 0)), []⟩ e w'

set_option maxRecDepth 100000 in
set_option maxHeartbeats 12800000 in
theorem With_n (w : World) (F : Nat → Prop) (f : Bool) (A B P Q : Option Addr) (n c m d t p e q : Nat) (s r : Int) (x : Nd) (xs ys : Bytes) (hF : ∀ k, F k → k < w.heap.size) (h : SNod F w x f (.slice A n c) (.slice B m d)) (hk : Src w (.slice P t p) xs) (hv : Src w (.slice Q e q) ys) (hn : n ≤ 10000) (hx : xs.length ≤ 100000) (hy : ys.length ≤ 100000) :
    Calls Tryd.prog 19 #[.agg #[.bool f, .slice A n c, .slice B m d], .agg #[.slice P t p, .slice Q e q, .int .i64 s, .int .i64 r]] w (Withed F w x (xs, ys, s, r)) := by
  obtain ⟨W0, hW0⟩ : ∃ W0, W0 = (((w.alloc (.cells #[.bool f, .slice A n c, .slice B m d] 34)).alloc (.cells #[.slice P t p, .slice Q e q, .int .i64 s, .int .i64 r] 56)).alloc (.cells #[.bool false, .slice none 0 0, .slice none 0 0] 34)) := ⟨_, rfl⟩
  have HO : Hid (Only (w.heap.size ≤ ·) w W0) := Lib.hid (by rw [hW0]; exact (((Only.refl _ w).alloc (fun _ h => h) _).alloc (fun _ h => h) _).alloc (fun _ h => h) _)
  have hZ : W0.heap.size = w.heap.size + 3 := by rw [hW0]; simp
  have HZ := Lib.hid hZ
  have HI : Hid (Blk W0 w.heap.size 34 [.bool f, .slice A n c, .slice B m d]) := Lib.hid (by rw [hW0]; exact ((Blk.new w 34 _).alloc _).alloc _)
  have HJ : Hid (Blk W0 (w.heap.size + 1) 56 [.slice P t p, .slice Q e q, .int .i64 s, .int .i64 r]) := Lib.hid (by
    rw [hW0]
    have := (Blk.new (w.alloc (.cells #[.bool f, .slice A n c, .slice B m d] 34)) 56 [.slice P t p, .slice Q e q, .int .i64 s, .int .i64 r]).alloc (.cells #[.bool false, .slice none 0 0, .slice none 0 0] 34)
    simpa using this)
  have HR : Hid (Blk W0 (w.heap.size + 1 + 1) 34 [.bool false, .slice none 0 0, .slice none 0 0]) := Lib.hid (by
    rw [hW0]
    have := Blk.new ((w.alloc (.cells #[.bool f, .slice A n c, .slice B m d] 34)).alloc (.cells #[.slice P t p, .slice Q e q, .int .i64 s, .int .i64 r] 56)) 34 [.bool false, .slice none 0 0, .slice none 0 0]
    simpa using this)
  have HFD : Hid (Calls Tryd.prog 24 #[.agg #[.bool f, .slice A n c, .slice B m d], .slice P t p] W0 (FoundIn W0 x.its xs)) := Find_n W0 f A B n c m d _ x xs (h.nod.now.later HO.out) (hk.later HO.out) (by omega)
  have HST : Hid (∀ W, Only (w.heap.size ≤ ·) w W → SRw itE (fun k => F k ∨ k = w.heap.size + 1 + 1) W (.slice A n c) x.its) := fun W hW => h.2.1.step (hW.mono fun _ h => .inr h) fun k hk => hk.elim .inl fun hk => .inr (by omega)
  have HNL := Lib.hid h.nod.now.2.1.len
  have HFF := Lib.hid hF
  have HOI : Hid (∀ W, Only (w.heap.size ≤ ·) w W → Calls Tryd.prog 49 #[.agg #[.slice P t p, .slice Q e q, .int .i64 s, .int .i64 r]] W (OwnIt W xs ys s r)) := fun W hW => ownItem_c W P Q t p e q s r xs ys (hk.later hW) (hv.later hW) hx hy
  have HSW : Hid (∀ W (G : Option Addr) (i qq : Nat) (qi : Int), qi = (qq : Int) → Only (w.heap.size ≤ ·) w W → w.heap.size + 3 ≤ W.heap.size → i + qq ≤ n → SRw itE (fun k => F k ∨ k = w.heap.size + 1 + 1) W (.slice G 1 1) [(xs, ys, s, r)] → Calls Tryd.prog 48 #[.slice A n c, .int .i64 i, .int .i64 qi, .slice G 1 1] W (OwnS itE (fun k => F k ∨ k = w.heap.size + 1 + 1) W (x.its.take i ++ ([(xs, ys, s, r)] ++ x.its.drop (i + qq))))) := fun W G i qq qi hqi hW hz hi hs => by
    rw [hqi]
    exact swapI_c W _ A G n c i qq 1 1 x.its _ (fun k hk => hk.elim (fun hk => Nat.lt_of_lt_of_le (HFF.out k hk) hW.size) fun hk => by omega) (HST.out W hW) hs hi (by omega) (by omega)
  have KP : Hid (∀ w' : World, Only (W0.heap.size ≤ ·) W0 w' → (w'.cell? ⟨w.heap.size, 1, none⟩ = some (.slice A n c) ∧ w'.cell? ⟨w.heap.size + 1, 0, none⟩ = some (.slice P t p) ∧ w'.cell? ⟨w.heap.size + 1, 1, none⟩ = some (.slice Q e q) ∧ w'.cell? ⟨w.heap.size + 1, 2, none⟩ = some (.int .i64 s) ∧ w'.cell? ⟨w.heap.size + 1, 3, none⟩ = some (.int .i64 r))) := fun W hW => ⟨((HI.out.later hW).tri).2.1, (HJ.out.later hW).four⟩
  clear h hk hv hF
  have HW0 := Lib.hid hW0
  rw [hW0] at HFD
  clear hW0 hZ
  go_enter Tryd.func19, Tryd.ntmps19
  go_upto_region 2 with (go_at_call 24; (refine HFD.out.mono ?_); rintro ee w1 ⟨i, b, rfl, hf, ho⟩; (rw [← HW0.out] at ho); have HF := Lib.hid hf; have HOL := Lib.hid ho; clear hf ho)
  have hi : i + (if b = true then 1 else 0) ≤ n := by
    have h1 := HF.out.1
    have h2 := HNL.out
    cases b
    · simp; omega
    · obtain ⟨y, hy1, _⟩ := HF.out.2.2.2.1 rfl
      have := (List.getElem?_eq_some_iff.1 hy1).1
      simp; omega
  obtain ⟨qq, hqq⟩ : ∃ qq : Nat, qq = (if b = true then 1 else 0) := ⟨_, rfl⟩
  rw [← hqq] at hi
  have HQQ := Lib.hid hqq
  cases b
  all_goals
    simp at hqq
    have HQ1 := Lib.hid hqq
    clear hqq
    go_wp2_with (fail)
    have HOZ : Hid (Only (W0.heap.size ≤ ·) W0 w1.drew) := HOL.out.drew
    refine wp_region_held_drew (S := (fun w' => (w'.cell? ⟨w.heap.size, 1, none⟩ = some (.slice A n c) ∧ w'.cell? ⟨w.heap.size + 1, 0, none⟩ = some (.slice P t p) ∧ w'.cell? ⟨w.heap.size + 1, 1, none⟩ = some (.slice Q e q) ∧ w'.cell? ⟨w.heap.size + 1, 2, none⟩ = some (.int .i64 s) ∧ w'.cell? ⟨w.heap.size + 1, 3, none⟩ = some (.int .i64 r)))) (by kernel_rfl) (KP.out _ HOZ.out) (fun hHeld => ?_)
    refine take_one (i := 0) (d := 16) (oi := ?_) (v := ?_) ?_ (by kernel_rfl) (by kernel_rfl) (by kernel_rfl) (fun _ _ _ h => h) ?_ ?_ ?_ (by assumption) ?_
    case refine_3 => (simp only [List.getElem?_toArray, List.getElem?_cons_zero]; rfl)
    case refine_4 => rfl
    case refine_5 => rfl
    case refine_6 => (intro w' hSw; (try dsimp only at hSw); go_simp; (try with_reducible rfl))
    simp only [Act.put, List.setIfInBounds_toArray, List.set_cons_zero, List.set_cons_succ]
    refine take_one (i := 1) (d := 17) (oi := ?_) (v := ?_) ?_ (by kernel_rfl) (by kernel_rfl) (by kernel_rfl) (fun _ _ _ h => h) ?_ ?_ ?_ (by assumption) ?_
    case refine_3 => (simp only [List.getElem?_toArray, List.getElem?_cons_succ, List.getElem?_cons_zero]; rfl)
    case refine_4 => rfl
    case refine_5 => rfl
    case refine_6 => (intro w' hSw; (try dsimp only at hSw); go_simp; (try with_reducible rfl))
    simp only [Act.put, List.setIfInBounds_toArray, List.set_cons_zero, List.set_cons_succ]
    refine take_one (i := 2) (d := 18) (oi := ?_) (v := ?_) ?_ (by kernel_rfl) (by kernel_rfl) (by kernel_rfl) (fun _ _ _ h => h) ?_ ?_ ?_ (by assumption) ?_
    case refine_3 => (simp only [List.getElem?_toArray, List.getElem?_cons_succ, List.getElem?_cons_zero]; rfl)
    case refine_4 => rfl
    case refine_5 => rfl
    case refine_6 => (intro w' hSw; (try dsimp only at hSw); go_simp; (try with_reducible rfl))
    simp only [Act.put, List.setIfInBounds_toArray, List.set_cons_zero, List.set_cons_succ]
    refine take_one (i := 3) (d := 19) (oi := ?_) (v := ?_) ?_ (by kernel_rfl) (by kernel_rfl) (by kernel_rfl) (fun _ _ _ h => h) ?_ ?_ ?_ (by assumption) ?_
    case refine_3 => (simp only [List.getElem?_toArray, List.getElem?_cons_succ, List.getElem?_cons_zero]; rfl)
    case refine_4 => rfl
    case refine_5 => rfl
    case refine_6 => (intro w' hSw; (try dsimp only at hSw); go_simp; (try with_reducible rfl))
    simp only [Act.put, List.setIfInBounds_toArray, List.set_cons_zero, List.set_cons_succ]
    refine take_one (i := 4) (d := 20) (oi := ?_) (v := ?_) ?_ (by kernel_rfl) (by kernel_rfl) (by kernel_rfl) (fun _ _ _ h => h) ?_ ?_ ?_ (by assumption) ?_
    case refine_3 => (simp only [List.getElem?_toArray, List.getElem?_cons_succ, List.getElem?_cons_zero]; rfl)
    case refine_4 => rfl
    case refine_5 => rfl
    case refine_6 => (intro w' hSw; (try dsimp only at hSw); go_simp; (try with_reducible rfl))
    simp only [Act.put, List.setIfInBounds_toArray, List.set_cons_zero, List.set_cons_succ]
    refine wpAnyH_ready (rs := [5]) (by kernel_rfl) (by simp) ?_
    refine AllReadyH.cons (o := ?_) ?_ (fun K hK => ?_) AllReadyH.nil
    case refine_2 => (simp only [List.getElem?_toArray, List.getElem?_cons_succ, List.getElem?_cons_zero]; rfl)
    go_simp
    (go_at_call 49; (with_reducible refine (HOI.out _ (on_new HO.out HOZ.out)).mono ?_); rintro ee w2 ⟨P2, p2, Q2, q2, rfl, hn1, hn2, ho⟩; have HNN := Lib.hid (And.intro hn1 hn2); have HZ1 := Lib.hid HOZ.out.size; (replace HOZ := Lib.hid (on_new HOZ.out ho)); have HO2 := Lib.hid ho; clear ho hn1 hn2)
    go_wp2_with (fail)
    refine hK.out _ _ (KP.out _ HOZ.out) (fun hHeld => ?_)
    clear hK K
    try simp only [Act.put, List.setIfInBounds_toArray, List.set_cons_zero, List.set_cons_succ]
    refine wpAnyH_ready (rs := [6]) (by kernel_rfl) (by simp) ?_
    refine AllReadyH.cons (o := ?_) ?_ (fun K hK => ?_) AllReadyH.nil
    case refine_2 => (simp only [List.getElem?_toArray, List.getElem?_cons_succ, List.getElem?_cons_zero]; rfl)
    go_simp
    refine hK.out _ _ (KP.out _ (HOZ.out.alloc (fun _ h => h) _)) (fun hHeld => ?_)
    clear hK K
    try simp only [Act.put, List.setIfInBounds_toArray, List.set_cons_zero, List.set_cons_succ]
    have HS1 : Hid (SRw itE (fun k => F k ∨ k = w.heap.size + 1 + 1) (w2.alloc (.cells #[.slice P2 xs.length p2, .slice Q2 ys.length q2, .int .i64 s, .int .i64 r] 56)) (.slice (some ⟨w2.heap.size, 0, none⟩) 1 1) [(xs, ys, s, r)]) := by
      have z1 := HZ.out
      have z2 := HOZ.out.size
      have z3 := HZ1.out
      have z4 := HO.out.size
      have zz1 : ∀ k, (F k ∨ k = w.heap.size + 1 + 1) → k < w1.drew.heap.size := fun k hk => hk.elim (fun hk => by have := HFF.out k hk; omega) fun hk => by omega
      exact Lib.hid (srw_one (fun k hk => by have := zz1 k hk; have := HO2.out.size; omega) (New.stab HNN.out.1 zz1) (New.stab HNN.out.2 zz1))
    replace HOZ : Hid (Only (W0.heap.size ≤ ·) W0 (w2.alloc (.cells #[.slice P2 xs.length p2, .slice Q2 ys.length q2, .int .i64 s, .int .i64 r] 56))) := HOZ.out.alloc (fun _ h => h) _
    refine wpAnyH_ready (rs := [7]) (by kernel_rfl) (by simp) ?_
    refine AllReadyH.cons (o := ?_) ?_ (fun K hK => ?_) AllReadyH.nil
    case refine_2 => (simp only [List.getElem?_toArray, List.getElem?_cons_succ, List.getElem?_cons_zero]; rfl)
    go_simp
    (go_at_call 48; (with_reducible refine (HSW.out _ _ i qq _ (by have := HQ1.out; omega) (on_new HO.out HOZ.out) (by rw [← HZ.out]; exact HOZ.out.size) hi HS1.out).mono ?_); rintro ee w3 ⟨A3, n3, c3, rfl, hs3, ho⟩; have HS3 := Lib.hid hs3; (replace HOZ := Lib.hid (on_new HOZ.out ho)); have HI3 := Lib.hid (HI.out.later HOZ.out); have HJ3 := Lib.hid (HJ.out.later HOZ.out); have HR3 := Lib.hid (HR.out.later HOZ.out); (obtain ⟨r0, r1, r2⟩ := HR3.out.tri); (obtain ⟨fr0, fr1, fr2⟩ := HR3.out.melt3); clear ho hs3)
    go_wp2_with (fail)
    refine hK.out _ _ (KP.out _ HOZ.out) (fun hHeld => ?_)
    clear hK K
    try simp only [Act.put, List.setIfInBounds_toArray, List.set_cons_zero, List.set_cons_succ]
    refine take_one (i := 8) (d := 24) (oi := ?_) (v := ?_) ?_ (by kernel_rfl) (by kernel_rfl) (by kernel_rfl) (fun _ _ _ h => h) ?_ ?_ ?_ (by assumption) ?_
    case refine_3 => (simp only [List.getElem?_toArray, List.getElem?_cons_succ, List.getElem?_cons_zero]; rfl)
    case refine_4 => rfl
    case refine_5 => rfl
    case refine_6 => (intro w' hSw; (try dsimp only at hSw); go_simp; (try with_reducible rfl))
    simp only [Act.put, List.setIfInBounds_toArray, List.set_cons_zero, List.set_cons_succ]
    refine wpAnyH_ready (rs := [9]) (by kernel_rfl) (by simp) ?_
    refine AllReadyH.cons (o := ?_) ?_ (fun K hK => ?_) AllReadyH.nil
    case refine_2 => (simp only [List.getElem?_toArray, List.getElem?_cons_succ, List.getElem?_cons_zero]; rfl)
    have ne0 : w.heap.size ≠ w.heap.size + 1 + 1 := by omega
    have ne1 : w.heap.size + 1 ≠ w.heap.size + 1 + 1 := by omega
    go_simp
    refine hK.out _ _ ⟨((((HI3.out.far (p := ⟨w.heap.size + 1 + 1, 0, none⟩) ne0 _).far (p := ⟨w.heap.size + 1 + 1, 1, none⟩) ne0 _).far (p := ⟨w.heap.size + 1 + 1, 2, none⟩) ne0 _).tri).2.1, (((HJ3.out.far (p := ⟨w.heap.size + 1 + 1, 0, none⟩) ne1 _).far (p := ⟨w.heap.size + 1 + 1, 1, none⟩) ne1 _).far (p := ⟨w.heap.size + 1 + 1, 2, none⟩) ne1 _).four⟩ (fun hHeld => ?_)
    clear hK K
    try simp only [Act.put, List.setIfInBounds_toArray, List.set_cons_zero, List.set_cons_succ]
    refine wpAnyH_done (by kernel_rfl) ?_ _
    obtain ⟨Wf, hWf⟩ : ∃ Wf, Wf = (((w3.setCell ⟨w.heap.size + 1 + 1, 0, none⟩ (.bool true)).setCell ⟨w.heap.size + 1 + 1, 1, none⟩ (.slice A3 n3 c3)).setCell ⟨w.heap.size + 1 + 1, 2, none⟩ (.slice none 0 0)) := ⟨_, rfl⟩
    have hBf : Blk Wf (w.heap.size + 1 + 1) 34 [.bool true, .slice A3 n3 c3, .slice none 0 0] := by rw [hWf]; exact ((HR3.out.set_ 0 _).set_ 1 _).set_ 2 _
    have hOs : Only (· = w.heap.size + 1 + 1) w3 Wf := by rw [hWf]; exact (((Only.refl (· = w.heap.size + 1 + 1) _).setCell (p := ⟨w.heap.size + 1 + 1, 0, none⟩) rfl _).setCell (p := ⟨w.heap.size + 1 + 1, 1, none⟩) rfl _).setCell (p := ⟨w.heap.size + 1 + 1, 2, none⟩) rfl _
    rw [← hWf]
    clear hWf r0 r1 r2
    obtain ⟨y0, y1, y2⟩ := hBf.tri
    have hOf : Only (w.heap.size ≤ ·) w Wf := (on_new HO.out HOZ.out).trans (hOs.mono fun j hj => by omega)
    go_wp2
    refine bodyPost_ret (v := .agg #[.bool true, .slice A3 n3 c3, .slice none 0 0]) (by simp [results, Tryd.results19, go_sem, y0, y1, y2]) rfl ?_
    rw [HQQ.out] at HS3
    refine ⟨i, _, HF.out, A3, n3, c3, none, 0, 0, rfl, ⟨rfl, ?_, SRw.nil_ _ _⟩, hOf⟩
    exact HS3.out.step (hOs.mono fun _ h => .inl (.inr h)) fun k hk => .inl (.inl hk)
end Go.Proofs.YtjbbljnfgpggkaaDoor
