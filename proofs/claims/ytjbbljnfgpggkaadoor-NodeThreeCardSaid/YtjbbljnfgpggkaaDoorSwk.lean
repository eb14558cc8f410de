/-
  Without, of a key that is there; Swap by one kid.
-/
import Derived.Test.YtjbbljnfgpggkaaDoorFnd
import Derived.Test.YtjbbljnfgpggkaaDoorSwq
import Derived.Test.YtjbbljnfgpggkaaDoorCpy
import Derived.Test.YtjbbljnfgpggkaaDoorCut
import Derived.Test.YtjbbljnfgpggkaaDoorDpl
import Derived.Deep.CutRange
set_option linter.unusedVariables false
namespace Go.Proofs.YtjbbljnfgpggkaaDoor
open Go.RowKit

/-- A leaf without an item comes back, and yes. -/
def Without1 (w : World) (x : Nd) (key : Bytes) (e : Ending) (w' : World) : Prop := ∃ (i : Nat) (A : Option Addr) (n c : Nat), e = .returned (.tuple #[.agg #[.bool true, .slice A n c, .slice none 0 0], .bool true]) ∧ Found x.its key i true ∧ Its w' (.slice A n c) (x.its.take i ++ x.its.drop (i + 1)) ∧ Only (w.heap.size ≤ ·) w w'
set_option maxRecDepth 100000 in
set_option maxHeartbeats 12800000 in
theorem Without_yes (w : World) (f : Bool) (A B : Option Addr) (n c m d : Nat) (v : Value) (x : Nd) (key : Bytes) (h : Nod w x f (.slice A n c) (.slice B m d)) (hv : Src w v key) (hn : n ≤ 10000) (hy : ∀ i b, Found x.its key i b → b = true) :
    Calls Tryd.prog 25 #[.agg #[.bool f, .slice A n c, .slice B m d], v] w (Without1 w x key) := by
  obtain ⟨W0, hW0⟩ : ∃ W0, W0 = ((w.alloc (.cells #[.bool f, .slice A n c, .slice B m d] 34)).alloc (.cells #[.bool false, .slice none 0 0, .slice none 0 0] 34)) := ⟨_, rfl⟩
  have HO : Hid (Only (w.heap.size ≤ ·) w W0) := Lib.hid (by rw [hW0]; exact ((Only.refl _ w).alloc (fun _ h => h) _).alloc (fun _ h => h) _)
  have hZ : W0.heap.size = w.heap.size + 2 := by rw [hW0]; simp
  have HZ := Lib.hid hZ
  have HI : Hid (Blk W0 w.heap.size 34 [.bool f, .slice A n c, .slice B m d]) := Lib.hid (by rw [hW0]; exact (Blk.new w 34 _).alloc _)
  have HR : Hid (Blk W0 (w.heap.size + 1) 34 [.bool false, .slice none 0 0, .slice none 0 0]) := Lib.hid (by
    rw [hW0]
    have := Blk.new (w.alloc (.cells #[.bool f, .slice A n c, .slice B m d] 34)) 34 [.bool false, .slice none 0 0, .slice none 0 0]
    simpa using this)
  have HFD : Hid (Calls Tryd.prog 24 #[.agg #[.bool f, .slice A n c, .slice B m d], v] W0 (FoundIn W0 x.its key)) := Find_n W0 f A B n c m d _ x key (h.later HO.out) (hv.later HO.out) (by omega)
  have HY := Lib.hid hy
  have HNL := Lib.hid h.2.1.len
  have HSW : Hid (∀ W (i : Nat), Only (w.heap.size ≤ ·) w W → w.heap.size + 2 ≤ W.heap.size → i + 1 ≤ n → Calls Tryd.prog 48 #[.slice A n c, .int .i64 i, .int .i64 1, .slice none 0 0] W (OwnS itE (· = w.heap.size + 1) W (x.its.take i ++ ([] ++ x.its.drop (i + 1))))) := fun W i hW hz hi => swapI_c W _ A none n c i 1 0 0 x.its [] (fun k hk => by omega) (h.snod.2.1.step (hW.mono fun _ h => .inr h) fun k hk => .inr (by omega)) (SRw.nil_ _ _) hi (by omega) (by omega)
  clear h hv hy
  have HW0 := Lib.hid hW0
  rw [hW0] at HFD
  clear hW0 hZ
  go_enter Tryd.func25, Tryd.ntmps25
  go_upto_region 2 with (go_at_call 24; (refine HFD.out.mono ?_); rintro ee w1 ⟨i, b, rfl, hf, ho⟩; (rw [← HW0.out] at ho); have HF := Lib.hid hf; have HOL := Lib.hid ho; clear hf ho)
  obtain rfl : b = true := HY.out i b HF.out
  have hi : i + 1 ≤ n := by
    obtain ⟨y, hy1, _⟩ := HF.out.2.2.2.1 rfl
    have := (List.getElem?_eq_some_iff.1 hy1).1
    have := HNL.out
    omega
  have HI1 := Lib.hid (HI.out.later HOL.out)
  obtain ⟨i0, i1, i2⟩ := HI1.out.tri
  go_wp2_with (go_at_call 48; (with_reducible refine (HSW.out _ i (on_new HO.out HOL.out) (by rw [← HZ.out]; exact HOL.out.size) hi).mono ?_); rintro ee w3 ⟨A3, n3, c3, rfl, hs3, ho⟩; have HS3 := Lib.hid hs3; have HOZ := Lib.hid (on_new HOL.out ho); have HR3 := Lib.hid (HR.out.later HOZ.out); (obtain ⟨r0, r1, r2⟩ := HR3.out.tri); (obtain ⟨fr0, fr1, fr2⟩ := HR3.out.melt3); clear ho hs3)
  obtain ⟨Wf, hWf⟩ : ∃ Wf, Wf = (((w3.setCell ⟨w.heap.size + 1, 0, none⟩ (.bool true)).setCell ⟨w.heap.size + 1, 1, none⟩ (.slice A3 n3 c3)).setCell ⟨w.heap.size + 1, 2, none⟩ (.slice none 0 0)) := ⟨_, rfl⟩
  have hBf : Blk Wf (w.heap.size + 1) 34 [.bool true, .slice A3 n3 c3, .slice none 0 0] := by rw [hWf]; exact ((HR3.out.set_ 0 _).set_ 1 _).set_ 2 _
  have hOs : Only (· = w.heap.size + 1) w3 Wf := by rw [hWf]; exact (((Only.refl (· = w.heap.size + 1) _).setCell (p := ⟨w.heap.size + 1, 0, none⟩) rfl _).setCell (p := ⟨w.heap.size + 1, 1, none⟩) rfl _).setCell (p := ⟨w.heap.size + 1, 2, none⟩) rfl _
  rw [← hWf]
  clear hWf r0 r1 r2
  obtain ⟨y0, y1, y2⟩ := hBf.tri
  have hOf : Only (w.heap.size ≤ ·) w Wf := (on_new HO.out HOZ.out).trans (hOs.mono fun j hj => by omega)
  refine bodyPost_ret (v := .tuple #[.agg #[.bool true, .slice A3 n3 c3, .slice none 0 0], .bool true]) (by simp [results, Tryd.results25, go_sem, y0, y1, y2]) rfl ?_
  exact ⟨i, A3, n3, c3, rfl, HF.out, HS3.out.rw_ Wf (hOs.mono fun _ h => .inl h), hOf⟩

set_option maxRecDepth 100000 in
set_option maxHeartbeats 12800000 in
theorem Swap_one (w : World) (f : Bool) (A B P Q : Option Addr) (n c m d k q t p cc : Nat) (r : Int) (x : Nd) (ks : Bytes) (b off : Nat) (hQ : Q = some ⟨b, off, none⟩) (h : Nod w x f (.slice A n c) (.slice B m d)) (hq0 : w.cell? ⟨b, off, none⟩ = some (.slice P t p)) (hq1 : w.cell? ⟨b, off + 1, none⟩ = some (.int .i64 r)) (hb : b < w.heap.size) (hk : Src w (.slice P t p) ks) (ht : t = ks.length) (hm : m ≤ 10000) (hkq : k + q ≤ m) (hks : ks.length ≤ 100000) :
    Calls Tryd.prog 20 #[.agg #[.bool f, .slice A n c, .slice B m d], .int .i64 k, .int .i64 q, .slice Q 1 cc] w (GaveN w ⟨false, [], x.kds.take k ++ (ks, r) :: x.kds.drop (k + q)⟩) := by
  subst hQ
  obtain ⟨W0, hW0⟩ : ∃ W0, W0 = ((w.alloc (.cells #[.bool f, .slice A n c, .slice B m d] 34)).alloc (.cells #[.bool false, .slice none 0 0, .slice none 0 0] 34)) := ⟨_, rfl⟩
  have HO : Hid (Only (w.heap.size ≤ ·) w W0) := Lib.hid (by rw [hW0]; exact ((Only.refl _ w).alloc (fun _ h => h) _).alloc (fun _ h => h) _)
  have hZ : W0.heap.size = w.heap.size + 2 := by rw [hW0]; simp
  have HZ := Lib.hid hZ
  have HI : Hid (Blk W0 w.heap.size 34 [.bool f, .slice A n c, .slice B m d]) := Lib.hid (by rw [hW0]; exact (Blk.new w 34 _).alloc _)
  have HR : Hid (Blk W0 (w.heap.size + 1) 34 [.bool false, .slice none 0 0, .slice none 0 0]) := Lib.hid (by
    rw [hW0]
    have := Blk.new (w.alloc (.cells #[.bool f, .slice A n c, .slice B m d] 34)) 34 [.bool false, .slice none 0 0, .slice none 0 0]
    simpa using this)
  have HSRC : Hid (∀ W, Only (w.heap.size ≤ ·) w W → W.cell? ⟨b, off, none⟩ = some (.slice P t p) ∧ W.cell? ⟨b, off + 1, none⟩ = some (.int .i64 r) ∧ Src W (.slice P t p) ks) := fun W hW => ⟨(hW.cell (p := ⟨b, off, none⟩) (Nat.not_le.2 hb)).trans hq0, (hW.cell (p := ⟨b, off + 1, none⟩) (Nat.not_le.2 hb)).trans hq1, hk.later hW⟩
  have HCL : Hid (∀ W, Src W (.slice P t p) ks → Calls Tryd.prog 50 #[.slice P t p] W fun e w' => ∃ v', e = .returned v' ∧ w'.ownsRow W.heap.size 5 1 v' ks.length (cb ks) ∧ Only (W.heap.size ≤ ·) W w') := fun W hs => Clone_c W _ ks hs (by omega)
  have HSW : Hid (∀ W (G : Option Addr) (gc : Nat), Only (w.heap.size ≤ ·) w W → w.heap.size + 2 ≤ W.heap.size → SRw kdE (· = w.heap.size + 1) W (.slice G 1 gc) [(ks, r)] → Calls Tryd.prog 51 #[.slice B m d, .int .i64 k, .int .i64 q, .slice G 1 gc] W (OwnS kdE (· = w.heap.size + 1) W (x.kds.take k ++ (ks, r) :: x.kds.drop (k + q)))) := fun W G gc hW hz hs => swapK_c W _ B G m d k q 1 gc x.kds _ (fun k hk => by omega) (h.snod.2.2.step (hW.mono fun _ h => .inr h) fun k hk => .inr (by omega)) hs hkq (by omega) (by omega)
  obtain ⟨i0', hi0, hz0, hz1, hz2⟩ := info_parts info_K
  have HIK := Lib.hid (And.intro hi0 (And.intro hz0 (And.intro hz1 hz2)))
  clear h hq0 hq1 hk ht hi0 hz0 hz1 hz2
  have HB := Lib.hid hb
  have HW0 := Lib.hid hW0
  clear hW0 hZ hb
  have m1 : max (k : Int) 0 = (k : Int) := by omega
  have m2 : min (k : Int) (m : Int) = (k : Int) := by omega
  have m3 : max (q : Int) 0 = (q : Int) := by omega
  have m4 : min (q : Int) ((m : Int) - (k : Int)) = (q : Int) := by omega
  go_enter Tryd.func20, Tryd.ntmps20
  go_wp2_with (fail)
  rw [← HW0.out]
  clear HW0 m1 m2 m3 m4
  go_loopw [9, 28] (fun s i wr => (s = .slice none 0 0 ∧ i = .int .i64 0 ∧ Only (W0.heap.size ≤ ·) W0 wr) ∨ (∃ (G : Option Addr) (gc : Nat), s = .slice G 1 gc ∧ i = .int .i64 1 ∧ Hid (SRw kdE (· = w.heap.size + 1) wr (.slice G 1 gc) [(ks, r)]) ∧ Only (W0.heap.size ≤ ·) W0 wr)) (fun _ i _ => 1 - (intOf i).toNat)
  case atStart => exact .inl ⟨rfl, rfl, Only.refl _ _⟩
  case round =>
    rcases hrel with ⟨rfl, rfl, ho⟩ | ⟨G, gc, rfl, rfl, HS, ho⟩
    · have HOL := Lib.hid ho
      clear ho
      obtain ⟨q0, q1, _⟩ := HSRC.out _ (on_new HO.out HOL.out)
      go_wp2_with (fail)
      obtain ⟨W1, hW1⟩ : ∃ W1, W1 = (wr.alloc (.cells #[.slice P t p, .int .i64 r] 58)) := ⟨_, rfl⟩
      have HBV : Hid (Blk W1 wr.heap.size 58 [.slice P t p, .int .i64 r]) := Lib.hid (by rw [hW1]; exact Blk.new wr 58 _)
      have HOL1 : Hid (Only (W0.heap.size ≤ ·) W0 W1) := Lib.hid (by rw [hW1]; exact HOL.out.alloc (fun _ h => h) _)
      rw [← hW1]
      clear hW1 q0 q1
      have KP : Hid (∀ w' : World, Only (W1.heap.size ≤ ·) W1 w' → (w'.cell? ⟨wr.heap.size, 0, none⟩ = some (.slice P t p) ∧ w'.cell? ⟨wr.heap.size, 1, none⟩ = some (.int .i64 r))) := fun W hW => ⟨(HBV.out.later hW).cell 0, (HBV.out.later hW).cell 1⟩
      have HOZ : Hid (Only (W1.heap.size ≤ ·) W1 W1.drew) := (Only.refl _ W1).drew
      refine wp_region_held_drew (S := (fun w' => (w'.cell? ⟨wr.heap.size, 0, none⟩ = some (.slice P t p) ∧ w'.cell? ⟨wr.heap.size, 1, none⟩ = some (.int .i64 r)))) (by kernel_rfl) (KP.out _ HOZ.out) (fun hHeld => ?_)
      refine take_one (i := 0) (d := 32) (oi := ?_) (v := ?_) ?_ (by kernel_rfl) (by kernel_rfl) (by kernel_rfl) (fun _ _ _ h => h) ?_ ?_ ?_ (by assumption) ?_
      case refine_3 => (simp only [List.getElem?_toArray, List.getElem?_cons_zero]; rfl)
      case refine_4 => rfl
      case refine_5 => rfl
      case refine_6 => (intro w' hSw; (try dsimp only at hSw); go_simp; (try with_reducible rfl))
      simp only [Act.put, List.setIfInBounds_toArray, List.set_cons_zero, List.set_cons_succ]
      refine take_one (i := 1) (d := 33) (oi := ?_) (v := ?_) ?_ (by kernel_rfl) (by kernel_rfl) (by kernel_rfl) (fun _ _ _ h => h) ?_ ?_ ?_ (by assumption) ?_
      case refine_3 => (simp only [List.getElem?_toArray, List.getElem?_cons_succ, List.getElem?_cons_zero]; rfl)
      case refine_4 => rfl
      case refine_5 => rfl
      case refine_6 => (intro w' hSw; (try dsimp only at hSw); go_simp; (try with_reducible rfl))
      simp only [Act.put, List.setIfInBounds_toArray, List.set_cons_zero, List.set_cons_succ]
      refine take_one (i := 2) (d := 34) (oi := ?_) (v := ?_) ?_ (by kernel_rfl) (by kernel_rfl) (by kernel_rfl) (fun _ _ _ h => h) ?_ ?_ ?_ (by assumption) ?_
      case refine_3 => (simp only [List.getElem?_toArray, List.getElem?_cons_succ, List.getElem?_cons_zero]; rfl)
      case refine_4 => rfl
      case refine_5 => rfl
      case refine_6 => (intro w' hSw; (try dsimp only at hSw); go_simp; (try with_reducible rfl))
      simp only [Act.put, List.setIfInBounds_toArray, List.set_cons_zero, List.set_cons_succ]
      refine take_one (i := 4) (d := 36) (oi := ?_) (v := ?_) ?_ (by kernel_rfl) (by kernel_rfl) (by kernel_rfl) (fun _ _ _ h => h) ?_ ?_ ?_ (by assumption) ?_
      case refine_3 => (simp only [List.getElem?_toArray, List.getElem?_cons_succ, List.getElem?_cons_zero]; rfl)
      case refine_4 => rfl
      case refine_5 => rfl
      case refine_6 => (intro w' hSw; (try dsimp only at hSw); go_simp; (try with_reducible rfl))
      simp only [Act.put, List.setIfInBounds_toArray, List.set_cons_zero, List.set_cons_succ]
      refine take_one (i := 5) (d := 37) (oi := ?_) (v := ?_) ?_ (by kernel_rfl) (by kernel_rfl) (by kernel_rfl) (fun _ _ _ h => h) ?_ ?_ ?_ (by assumption) ?_
      case refine_3 => (simp only [List.getElem?_toArray, List.getElem?_cons_succ, List.getElem?_cons_zero]; rfl)
      case refine_4 => rfl
      case refine_5 => rfl
      case refine_6 => (intro w' hSw; (try dsimp only at hSw); go_simp; (try with_reducible rfl))
      simp only [Act.put, List.setIfInBounds_toArray, List.set_cons_zero, List.set_cons_succ]
      refine wpAnyH_ready (rs := [3]) (by kernel_rfl) (by simp) ?_
      refine AllReadyH.cons (o := ?_) ?_ (fun K hK => ?_) AllReadyH.nil
      case refine_2 => (simp only [List.getElem?_toArray, List.getElem?_cons_succ, List.getElem?_cons_zero]; rfl)
      go_simp
      (go_at_call 50; (with_reducible refine (HCL.out _ (HSRC.out _ (on_new HO.out (on_new HOL1.out HOZ.out))).2.2).mono ?_); rintro ee v1 ⟨kv, rfl, hv, ho⟩; (obtain ⟨P2, p2, rfl, hnew⟩ := New.form hv); have HN := Lib.hid hnew; have HZ1 := Lib.hid (on_new HOL1.out HOZ.out).size; (replace HOZ := Lib.hid (on_new HOZ.out ho)); clear ho hv hnew)
      go_wp2_with (fail)
      refine hK.out _ _ (KP.out _ HOZ.out) (fun hHeld => ?_)
      clear hK K
      try simp only [Act.put, List.setIfInBounds_toArray, List.set_cons_zero, List.set_cons_succ]
      refine take_one (i := 6) (d := 38) (oi := ?_) (v := ?_) ?_ (by kernel_rfl) (by kernel_rfl) (by kernel_rfl) (fun _ _ _ h => h) ?_ ?_ ?_ (by assumption) ?_
      case refine_3 => (simp only [List.getElem?_toArray, List.getElem?_cons_succ, List.getElem?_cons_zero]; rfl)
      case refine_4 => rfl
      case refine_5 => rfl
      case refine_6 => (intro w' hSw; (try dsimp only at hSw); go_simp; (try with_reducible rfl))
      simp only [Act.put, List.setIfInBounds_toArray, List.set_cons_zero, List.set_cons_succ]
      refine wpAnyH_ready (rs := [7]) (by kernel_rfl) (by simp) ?_
      refine AllReadyH.cons (o := ?_) ?_ (fun K hK => ?_) AllReadyH.nil
      case refine_2 => (simp only [List.getElem?_toArray, List.getElem?_cons_succ, List.getElem?_cons_zero]; rfl)
      go_simp
      refine hK.out _ _ (KP.out _ (HOZ.out.alloc (fun _ h => h) _)) (fun hHeld => ?_)
      clear hK K
      try simp only [Act.put, List.setIfInBounds_toArray, List.set_cons_zero, List.set_cons_succ]
      have HB2 : Hid (Blk (v1.alloc (.cells #[.slice P2 ks.length p2, .int .i64 r] 58)) v1.heap.size 58 [.slice P2 ks.length p2, .int .i64 r]) := Blk.new v1 58 _
      have HN2 : Hid (New (v1.alloc (.cells #[.slice P2 ks.length p2, .int .i64 r] 58)) W1.drew.heap.size (.slice P2 ks.length p2) ks) := HN.out.later ((Only.refl _ v1).alloc (fun _ h => h) _)
      replace HOZ : Hid (Only (W1.heap.size ≤ ·) W1 (v1.alloc (.cells #[.slice P2 ks.length p2, .int .i64 r] 58))) := HOZ.out.alloc (fun _ h => h) _
      refine wpAnyH_ready (rs := [8]) (by kernel_rfl) (by simp) ?_
      refine AllReadyH.cons (o := ?_) ?_ (fun K hK => ?_) AllReadyH.nil
      case refine_2 => (simp only [List.getElem?_toArray, List.getElem?_cons_succ, List.getElem?_cons_zero]; rfl)
      rw [if_pos (by kernel_rfl)]
      refine wp_append_at (.tmp 32) (.tmp 39) 32 rfl W0.heap.size 58 i0' zK 2 32 Tryd.underlying32 HIK.out.1 HIK.out.2.1 HIK.out.2.2.1 HIK.out.2.2.2 (by rfl) (by omega) (.slice none 0 0) 0 [] rfl (World.ownsRow_nil _ _ _ _) ⟨v1.heap.size, 0, none⟩ 1 1 [.slice P2 ks.length p2, .int .i64 r] rfl rfl (fun j u hu => by rw [Addr.add_lit, HB2.out.cell, Nat.zero_add]; exact hu) (by simp [Value.oneCell']) (by simp only [maxLen]; omega) (by omega) (on_new HOL1.out HOZ.out).size ?_
      intro v' w' ho' hg' hat'
      obtain ⟨G, gc, rfl, _⟩ := raw_of_own ho'
      have HO5 : Hid (Only (v1.heap.size ≤ ·) v1 w') := Only.grown ((Only.refl _ v1).alloc (fun _ h => h) _) hg' (fun _ h => h) (fun gg hgg => by cases hgg)
      have HO6 : Hid (Only (W1.heap.size ≤ ·) W1 w') := Only.grown HOZ.out hg' (fun _ h => h) (fun gg hgg => by cases hgg)
      have HSR : Hid (SRw kdE (· = w.heap.size + 1) w' (.slice G 1 gc) [(ks, r)]) := by
        have hz := HZ.out
        have hz1 := HZ1.out
        have hN3 : New w' W1.drew.heap.size (.slice P2 ks.length p2) ks := HN.out.later HO5.out
        exact Lib.hid ⟨[.slice P2 ks.length p2, .int .i64 r], fun W hW => ⟨Den.single ⟨P2, p2, rfl, New.stab hN3 (fun k hk => by omega) W hW⟩, raw_stab ho' (by simp [Value.oneCell']) (fun k hk => by omega) W hW⟩⟩
      clear ho' hg' hat'
      refine hK.out _ _ (KP.out _ HO6.out) (fun hHeld => ?_)
      clear hK K
      try simp only [Act.put, List.setIfInBounds_toArray, List.set_cons_zero, List.set_cons_succ]
      refine take_one (i := 9) (d := 9) (oi := ?_) (v := ?_) ?_ (by kernel_rfl) (by kernel_rfl) (by kernel_rfl) (fun _ _ _ h => h) ?_ ?_ ?_ (by assumption) ?_
      case refine_3 => (simp only [List.getElem?_toArray, List.getElem?_cons_succ, List.getElem?_cons_zero]; rfl)
      case refine_4 => rfl
      case refine_5 => rfl
      case refine_6 => (intro w' hSw; (try dsimp only at hSw); go_simp; (try with_reducible rfl))
      simp only [Act.put, List.setIfInBounds_toArray, List.set_cons_zero, List.set_cons_succ]
      refine wpAnyH_done (by kernel_rfl) ?_ _
      go_wp2
      go_roundw
      case rel => exact .inr ⟨G, gc, rfl, rfl, HSR, on_new HOL1.out HO6.out⟩
      case measure => simp [intOf]
    · have HOL := Lib.hid ho
      have HI1 := Lib.hid (HI.out.later ho)
      obtain ⟨i0, i1, i2⟩ := HI1.out.tri
      clear ho
      go_wp2_with (go_at_call 51; (with_reducible refine (HSW.out _ G gc (on_new HO.out HOL.out) (by rw [← HZ.out]; exact HOL.out.size) HS.out).mono ?_); rintro ee w3 ⟨A3, n3, c3, rfl, hs3, ho⟩; have HS3 := Lib.hid hs3; have HOZ := Lib.hid (on_new HOL.out ho); have HR3 := Lib.hid (HR.out.later HOZ.out); (obtain ⟨r0, r1, r2⟩ := HR3.out.tri); (obtain ⟨fr0, fr1, fr2⟩ := HR3.out.melt3); clear ho hs3)
      obtain ⟨Wf, hWf⟩ : ∃ Wf, Wf = (((w3.setCell ⟨w.heap.size + 1, 0, none⟩ (.bool false)).setCell ⟨w.heap.size + 1, 1, none⟩ (.slice none 0 0)).setCell ⟨w.heap.size + 1, 2, none⟩ (.slice A3 n3 c3)) := ⟨_, rfl⟩
      have hBf : Blk Wf (w.heap.size + 1) 34 [.bool false, .slice none 0 0, .slice A3 n3 c3] := by rw [hWf]; exact ((HR3.out.set_ 0 _).set_ 1 _).set_ 2 _
      have hOs : Only (· = w.heap.size + 1) w3 Wf := by rw [hWf]; exact (((Only.refl (· = w.heap.size + 1) _).setCell (p := ⟨w.heap.size + 1, 0, none⟩) rfl _).setCell (p := ⟨w.heap.size + 1, 1, none⟩) rfl _).setCell (p := ⟨w.heap.size + 1, 2, none⟩) rfl _
      rw [← hWf]
      clear hWf r0 r1 r2
      obtain ⟨y0, y1, y2⟩ := hBf.tri
      have hOf : Only (w.heap.size ≤ ·) w Wf := (on_new HO.out HOZ.out).trans (hOs.mono fun j hj => by omega)
      refine bodyPost_ret (v := .agg #[.bool false, .slice none 0 0, .slice A3 n3 c3]) (by simp [results, Tryd.results20, go_sem, y0, y1, y2]) rfl ?_
      exact ⟨none, 0, 0, A3, n3, c3, rfl, ⟨rfl, Rw.nil_ Wf, HS3.out.rw_ Wf (hOs.mono fun _ h => .inl h)⟩, hOf⟩
end Go.Proofs.YtjbbljnfgpggkaaDoor
