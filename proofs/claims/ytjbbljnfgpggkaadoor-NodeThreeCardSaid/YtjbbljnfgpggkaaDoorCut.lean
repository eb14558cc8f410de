/-
  cut of a piece, for a leaf and for a branch.
-/
import Derived.Test.YtjbbljnfgpggkaaDoorStb
import Derived.Test.YtjbbljnfgpggkaaDoorEnt
import Derived.RegionTactic
import Derived.BigRegion
set_option linter.unusedVariables false
namespace Go.Proofs.YtjbbljnfgpggkaaDoor
open Go.RowKit
attribute [local go_sem] run_store_func

/-- Both pieces come back. -/
def CutTo (F : Nat → Prop) (w : World) (x : Nd) (kv : Value) (k : Nat) (e : Ending) (w' : World) : Prop :=
  ∃ A1 n1 c1 B1 m1 d1 P2 p2 A2 n2 c2 B2 m2 d2, e = .returned (.tuple #[.agg #[kv, .bool x.leaf, .slice A1 n1 c1, .slice B1 m1 d1], .agg #[.slice P2 (keyN k x).length p2, .bool x.leaf, .slice A2 n2 c2, .slice B2 m2 d2]]) ∧
    SNod F w' (fstN k x) x.leaf (.slice A1 n1 c1) (.slice B1 m1 d1) ∧ Stab F w' (fun W => Src W (.slice P2 (keyN k x).length p2) (keyN k x)) ∧ SNod F w' (sndN k x) x.leaf (.slice A2 n2 c2) (.slice B2 m2 d2) ∧ Only (w.heap.size ≤ ·) w w'
theorem Blk.melt {w : World} {g : Nat} {t : TypeId} {cs : List Value} (h : Blk w g t cs) : w.frozen? ⟨g, 0, none⟩ = false ∧ w.frozen? ⟨g, 1, none⟩ = false ∧ w.frozen? ⟨g, 2, none⟩ = false ∧ w.frozen? ⟨g, 3, none⟩ = false := ⟨h.frozen 0, h.frozen 1, h.frozen 2, h.frozen 3⟩
theorem fst_leaf {x : Nd} (h : x.leaf = true) (k : Nat) : fstN k x = ⟨true, x.its.take k, []⟩ := by unfold fstN; rw [if_pos h]
theorem snd_leaf {x : Nd} (h : x.leaf = true) (k : Nat) : sndN k x = ⟨true, x.its.drop k, []⟩ := by unfold sndN; rw [if_pos h]
theorem fst_kids {x : Nd} (h : x.leaf = false) (k : Nat) : fstN k x = ⟨false, [], x.kds.take k⟩ := by unfold fstN; rw [if_neg (by rw [h]; decide)]
theorem snd_kids {x : Nd} (h : x.leaf = false) (k : Nat) : sndN k x = ⟨false, [], headK [] (x.kds.drop k)⟩ := by unfold sndN; rw [if_neg (by rw [h]; decide)]
theorem key_leaf {x : Nd} (h : x.leaf = true) {k : Nat} {i : It} (hi : x.its[k]? = some i) : keyN k x = i.1 := by unfold keyN; rw [if_pos h, hi]; rfl
theorem key_kids {x : Nd} (h : x.leaf = false) {k : Nat} {i : Kd} (hi : x.kds[k]? = some i) : keyN k x = i.1 := by unfold keyN; rw [if_neg (by rw [h]; decide), hi]; rfl
theorem many_leaf {x : Nd} (h : x.leaf = true) : many x = x.its.length := by unfold many; rw [if_pos h]
theorem many_kids {x : Nd} (h : x.leaf = false) : many x = x.kds.length := by unfold many; rw [if_neg (by rw [h]; decide)]

set_option maxRecDepth 100000 in
set_option maxHeartbeats 6400000 in
theorem cut_entries_leaf (w : World) (F : Nat → Prop) (P A B : Option Addr) (q p n c m d k : Nat) (x : Nd) (hF : ∀ k, F k → k < w.heap.size) (hf : x.leaf = true) (h : SNod F w x true (.slice A n c) (.slice B m d)) (hs : Small x) (hk1 : 1 ≤ k) (hk2 : k < many x) :
    Calls Tryd.prog 32 #[.agg #[.slice P q p, .bool true, .slice A n c, .slice B m d], .int .i64 k] w (CutTo F w x (.slice P q p) k) := by
  have hmf : ∀ (fn : Fn) (first cap : Array Value) (w : World), (Instr.makeFunc fn first cap).run Tryd.prog w = .ok (.func fn first cap) w := fun _ _ _ _ => rfl
  have hfd := ent1
  have hN : Nod w x true (.slice A n c) (.slice B m d) := h.nod.now
  have hcn := hN.2.1.cap
  have hln := hN.2.1.len
  have hkn : k < n := by rw [hln, ← many_leaf hf]; exact hk2
  have hn1 : n ≤ 1000 := by rw [hln]; exact hs.1
  obtain ⟨i, hi⟩ : ∃ i, x.its[k]? = some i := ⟨_, List.getElem?_eq_getElem (by omega)⟩
  have hil : i.1.length ≤ 1000 := (hs.2.2.1 i (List.mem_of_getElem? hi)).1
  have HKN : Hid (keyN k x = i.1) := key_leaf hf hi
  have HX := Lib.hid hf
  have HSN := Lib.hid h
  have HF := Lib.hid hF
  have HK : Hid (∀ W, Only (w.heap.size ≤ ·) w W → Calls Tryd.prog 59 #[.agg #[.bool true, .slice A n c, .slice B m d], .int .i64 k] W (Gave W i.1)) := fun W hW => itemKey_c W true A B n c m d k x i (hN.later hW) hi
  have HCL : Hid (∀ W u, Src W u i.1 → Calls Tryd.prog 50 #[u] W fun e w' => ∃ k, e = .returned k ∧ w'.ownsRow W.heap.size 5 1 k i.1.length (cb i.1) ∧ Only (W.heap.size ≤ ·) W w') := fun W u hu => Clone_c W u _ hu (by omega)
  have HZ : Hid ((((w.alloc (.cells #[.slice P q p, .bool true, .slice A n c, .slice B m d] 41)).alloc (.cells #[.slice none 0 0, .bool false, .slice none 0 0, .slice none 0 0] 41)).alloc (.cells #[.slice none 0 0, .bool false, .slice none 0 0, .slice none 0 0] 41)).heap.size = w.heap.size + 3) := by show _ = _; simp
  have HO : Hid (Only (w.heap.size ≤ ·) w (((w.alloc (.cells #[.slice P q p, .bool true, .slice A n c, .slice B m d] 41)).alloc (.cells #[.slice none 0 0, .bool false, .slice none 0 0, .slice none 0 0] 41)).alloc (.cells #[.slice none 0 0, .bool false, .slice none 0 0, .slice none 0 0] 41))) := (((Only.refl _ w).alloc (fun _ h => h) _).alloc (fun _ h => h) _).alloc (fun _ h => h) _
  have HB1 : Hid (Blk (((w.alloc (.cells #[.slice P q p, .bool true, .slice A n c, .slice B m d] 41)).alloc (.cells #[.slice none 0 0, .bool false, .slice none 0 0, .slice none 0 0] 41)).alloc (.cells #[.slice none 0 0, .bool false, .slice none 0 0, .slice none 0 0] 41)) w.heap.size 41 [.slice P q p, .bool true, .slice A n c, .slice B m d]) := ((Blk.new w 41 [.slice P q p, .bool true, .slice A n c, .slice B m d]).alloc _).alloc _
  have HB2 : Hid (Blk (((w.alloc (.cells #[.slice P q p, .bool true, .slice A n c, .slice B m d] 41)).alloc (.cells #[.slice none 0 0, .bool false, .slice none 0 0, .slice none 0 0] 41)).alloc (.cells #[.slice none 0 0, .bool false, .slice none 0 0, .slice none 0 0] 41)) (w.heap.size + 1) 41 [.slice none 0 0, .bool false, .slice none 0 0, .slice none 0 0]) := Lib.hid (by
    have := (Blk.new (w.alloc (.cells #[.slice P q p, .bool true, .slice A n c, .slice B m d] 41)) 41 [.slice none 0 0, .bool false, .slice none 0 0, .slice none 0 0]).alloc (.cells #[.slice none 0 0, .bool false, .slice none 0 0, .slice none 0 0] 41)
    simpa using this)
  have HB3 : Hid (Blk (((w.alloc (.cells #[.slice P q p, .bool true, .slice A n c, .slice B m d] 41)).alloc (.cells #[.slice none 0 0, .bool false, .slice none 0 0, .slice none 0 0] 41)).alloc (.cells #[.slice none 0 0, .bool false, .slice none 0 0, .slice none 0 0] 41)) (w.heap.size + 1 + 1) 41 [.slice none 0 0, .bool false, .slice none 0 0, .slice none 0 0]) := Lib.hid (by
    have := Blk.new ((w.alloc (.cells #[.slice P q p, .bool true, .slice A n c, .slice B m d] 41)).alloc (.cells #[.slice none 0 0, .bool false, .slice none 0 0, .slice none 0 0] 41)) 41 [.slice none 0 0, .bool false, .slice none 0 0, .slice none 0 0]
    simpa using this)
  have j0 : ¬ c = k := by omega
  have j1 : (0 : Int) ≤ (k : Int) := by omega
  have j2 : (k : Int) ≤ (c : Int) := by omega
  have j3 : (k : Int) ≤ (n : Int) := by omega
  clear hf hN h hs hi hF hln hk2
  go_enter Tryd.func32, Tryd.ntmps32
  go_wp2_with (first
    | (go_at_call 31; (with_reducible refine (entries_leaf _ _ _ _ _ _ _).mono ?_); rintro e w1 ⟨rfl, ho⟩; have HS1 : Hid (w.heap.size + 3 ≤ w1.heap.size) := Lib.hid (by have := ho.size; rw [HZ.out] at this; exact this); (replace HB1 := Lib.hid (HB1.out.later ho)); (replace HB2 := Lib.hid (HB2.out.later ho)); (replace HB3 := Lib.hid (HB3.out.later ho)); (replace HO := Lib.hid (on_new HO.out ho)); clear ho; unfold leafEnt)
    | (go_at_call 59; (with_reducible refine (HK.out _ HO.out).mono ?_); rintro e w2 ⟨P1, p1, rfl, hsr, ho⟩; have HSR := Lib.hid hsr; have HS2 := Lib.hid (Nat.le_trans HS1.out ho.size); (replace HB1 := Lib.hid (HB1.out.later ho)); (replace HB2 := Lib.hid (HB2.out.later ho)); (replace HB3 := Lib.hid (HB3.out.later ho)); (replace HO := Lib.hid (on_new HO.out ho)); clear ho hsr)
    | (go_at_call 50; (with_reducible refine (HCL.out _ _ HSR.out).mono ?_); rintro e w3 ⟨kv, rfl, hv, ho⟩; (obtain ⟨P2, p2, rfl, hnew⟩ := New.form hv); have HNW := Lib.hid (hnew.mono HS2.out); (replace HB1 := Lib.hid (HB1.out.later ho)); (replace HB2 := Lib.hid (HB2.out.later ho)); (replace HB3 := Lib.hid (HB3.out.later ho)); (replace HO := Lib.hid (on_new HO.out ho)); have hs3 := Lib.hid (Nat.le_trans HS2.out ho.size); (obtain ⟨a0, a1, a2, a3⟩ := HB1.out.four); (obtain ⟨b0, b1, b2, b3⟩ := HB2.out.four); (obtain ⟨d0, d1, d2, d3⟩ := HB3.out.four); clear ho hv hnew))
  obtain ⟨fb0, fb1, fb2, fb3⟩ := HB2.out.melt
  obtain ⟨fd0, fd1, fd2, fd3⟩ := HB3.out.melt
  have ne1 : w.heap.size + 1 ≠ w.heap.size + 1 + 1 := by omega
  have ne2 : w.heap.size + 1 + 1 ≠ w.heap.size + 1 := by omega
  go_region
  obtain ⟨W, hW⟩ : ∃ W, W = (((((((((w3.setCell ⟨w.heap.size + 1, 0, none⟩ (.slice P q p)).setCell ⟨w.heap.size + 1, 1, none⟩ (.bool true)).setCell ⟨w.heap.size + 1, 2, none⟩ (.slice A k k)).setCell ⟨w.heap.size + 1, 3, none⟩ (.slice none 0 0)).setCell ⟨w.heap.size + 1 + 1, 0, none⟩ (.slice P2 i.1.length p2)).setCell ⟨w.heap.size + 1 + 1, 1, none⟩ (.bool true)).setCell ⟨w.heap.size + 1 + 1, 2, none⟩ (.slice (A.map (·.add (k * 4))) (n - k) (c - k))).setCell ⟨w.heap.size + 1 + 1, 3, none⟩ (.slice none 0 0))).drew := ⟨_, rfl⟩
  have hB2 : Blk W (w.heap.size + 1) 41 [.slice P q p, .bool true, .slice A k k, .slice none 0 0] := by rw [hW]; exact ((((((((HB2.out.set_ 0 _).set_ 1 _).set_ 2 _).set_ 3 _).far (p := ⟨w.heap.size + 1 + 1, 0, none⟩) ne1 _).far (p := ⟨w.heap.size + 1 + 1, 1, none⟩) ne1 _).far (p := ⟨w.heap.size + 1 + 1, 2, none⟩) ne1 _).far (p := ⟨w.heap.size + 1 + 1, 3, none⟩) ne1 _).drew
  have hB3 : Blk W (w.heap.size + 1 + 1) 41 [.slice P2 i.1.length p2, .bool true, .slice (A.map (·.add (k * 4))) (n - k) (c - k), .slice none 0 0] := by rw [hW]; exact ((((((((HB3.out.far (p := ⟨w.heap.size + 1, 0, none⟩) ne2 _).far (p := ⟨w.heap.size + 1, 1, none⟩) ne2 _).far (p := ⟨w.heap.size + 1, 2, none⟩) ne2 _).far (p := ⟨w.heap.size + 1, 3, none⟩) ne2 _).set_ 0 _).set_ 1 _).set_ 2 _).set_ 3 _).drew
  have hOs : Only (fun k => k = w.heap.size + 1 ∨ k = w.heap.size + 1 + 1) w3 W := by rw [hW]; exact (((((((((Only.refl _ _).setCell (p := ⟨w.heap.size + 1, 0, none⟩) (.inl rfl) _).setCell (p := ⟨w.heap.size + 1, 1, none⟩) (.inl rfl) _).setCell (p := ⟨w.heap.size + 1, 2, none⟩) (.inl rfl) _).setCell (p := ⟨w.heap.size + 1, 3, none⟩) (.inl rfl) _).setCell (p := ⟨w.heap.size + 1 + 1, 0, none⟩) (.inr rfl) _).setCell (p := ⟨w.heap.size + 1 + 1, 1, none⟩) (.inr rfl) _).setCell (p := ⟨w.heap.size + 1 + 1, 2, none⟩) (.inr rfl) _).setCell (p := ⟨w.heap.size + 1 + 1, 3, none⟩) (.inr rfl) _).drew
  have hO : Only (w.heap.size ≤ ·) w W := HO.out.trans (hOs.mono fun k hk => by omega)
  rw [← hW]
  clear hW a0 a1 a2 a3 b0 b1 b2 b3 d0 d1 d2 d3
  obtain ⟨b0, b1, b2, b3⟩ := hB2.four
  obtain ⟨d0, d1, d2, d3⟩ := hB3.four
  have hNW := (HNW.out.keep hOs fun k hk _ e => by omega).mono (b' := w.heap.size) (by omega)
  try go_wp2
  refine bodyPost_ret (v := .tuple #[.agg #[.slice P q p, .bool true, .slice A k k, .slice none 0 0], .agg #[.slice P2 i.1.length p2, .bool true, .slice (A.map (·.add (k * 4))) (n - k) (c - k), .slice none 0 0]]) (by simp [results, Tryd.results32, go_sem, b0, b1, b2, b3, d0, d1, d2, d3]) rfl ?_
  unfold CutTo
  rw [HKN.out, HX.out, fst_leaf HX.out, snd_leaf HX.out]
  have h2 := (HSN.out.2.1.later hO).drop (k := k) (by omega)
  rw [if_neg j0] at h2
  exact ⟨_, _, _, _, _, _, _, _, _, _, _, _, _, _, rfl, ⟨rfl, (HSN.out.2.1.later hO).cut (by omega), SRw.nil_ _ _⟩, New.stab (w := w) hNW HF.out, ⟨rfl, h2, SRw.nil_ _ _⟩, hO⟩

set_option maxRecDepth 100000 in
set_option maxHeartbeats 6400000 in
theorem cut_entries_kids (w : World) (F : Nat → Prop) (P A B : Option Addr) (q p n c m d k : Nat) (x : Nd) (hF : ∀ k, F k → k < w.heap.size) (hf : x.leaf = false) (h : SNod F w x false (.slice A n c) (.slice B m d)) (hs : Small x) (hk1 : 1 ≤ k) (hk2 : k < many x) :
    Calls Tryd.prog 32 #[.agg #[.slice P q p, .bool false, .slice A n c, .slice B m d], .int .i64 k] w (CutTo F w x (.slice P q p) k) := by
  have hmf : ∀ (fn : Fn) (first cap : Array Value) (w : World), (Instr.makeFunc fn first cap).run Tryd.prog w = .ok (.func fn first cap) w := fun _ _ _ _ => rfl
  have hfd := ent1
  have hN : Nod w x false (.slice A n c) (.slice B m d) := h.nod.now
  have hcn := hN.2.2.cap
  have hln := hN.2.2.len
  have hkn : k < m := by rw [hln, ← many_kids hf]; exact hk2
  have hn1 : m ≤ 1000 := by rw [hln]; exact hs.2.1
  obtain ⟨i, hi⟩ : ∃ i, x.kds[k]? = some i := ⟨_, List.getElem?_eq_getElem (by omega)⟩
  have hil : i.1.length ≤ 1000 := hs.2.2.2 i (List.mem_of_getElem? hi)
  have HKN : Hid (keyN k x = i.1) := key_kids hf hi
  have HX := Lib.hid hf
  have HSN := Lib.hid h
  have HF := Lib.hid hF
  have HK : Hid (∀ W, Only (w.heap.size ≤ ·) w W → Calls Tryd.prog 62 #[.agg #[.bool false, .slice A n c, .slice B m d], .int .i64 k] W (Gave W i.1)) := fun W hW => kidKey_c W false A B n c m d k x i (hN.later hW) hi
  have HCL : Hid (∀ W u, Src W u i.1 → Calls Tryd.prog 50 #[u] W fun e w' => ∃ k, e = .returned k ∧ w'.ownsRow W.heap.size 5 1 k i.1.length (cb i.1) ∧ Only (W.heap.size ≤ ·) W w') := fun W u hu => Clone_c W u _ hu (by omega)
  have HZ : Hid ((((w.alloc (.cells #[.slice P q p, .bool false, .slice A n c, .slice B m d] 41)).alloc (.cells #[.slice none 0 0, .bool false, .slice none 0 0, .slice none 0 0] 41)).alloc (.cells #[.slice none 0 0, .bool false, .slice none 0 0, .slice none 0 0] 41)).heap.size = w.heap.size + 3) := by show _ = _; simp
  have HO : Hid (Only (w.heap.size ≤ ·) w (((w.alloc (.cells #[.slice P q p, .bool false, .slice A n c, .slice B m d] 41)).alloc (.cells #[.slice none 0 0, .bool false, .slice none 0 0, .slice none 0 0] 41)).alloc (.cells #[.slice none 0 0, .bool false, .slice none 0 0, .slice none 0 0] 41))) := (((Only.refl _ w).alloc (fun _ h => h) _).alloc (fun _ h => h) _).alloc (fun _ h => h) _
  have HB1 : Hid (Blk (((w.alloc (.cells #[.slice P q p, .bool false, .slice A n c, .slice B m d] 41)).alloc (.cells #[.slice none 0 0, .bool false, .slice none 0 0, .slice none 0 0] 41)).alloc (.cells #[.slice none 0 0, .bool false, .slice none 0 0, .slice none 0 0] 41)) w.heap.size 41 [.slice P q p, .bool false, .slice A n c, .slice B m d]) := ((Blk.new w 41 [.slice P q p, .bool false, .slice A n c, .slice B m d]).alloc _).alloc _
  have HB2 : Hid (Blk (((w.alloc (.cells #[.slice P q p, .bool false, .slice A n c, .slice B m d] 41)).alloc (.cells #[.slice none 0 0, .bool false, .slice none 0 0, .slice none 0 0] 41)).alloc (.cells #[.slice none 0 0, .bool false, .slice none 0 0, .slice none 0 0] 41)) (w.heap.size + 1) 41 [.slice none 0 0, .bool false, .slice none 0 0, .slice none 0 0]) := Lib.hid (by
    have := (Blk.new (w.alloc (.cells #[.slice P q p, .bool false, .slice A n c, .slice B m d] 41)) 41 [.slice none 0 0, .bool false, .slice none 0 0, .slice none 0 0]).alloc (.cells #[.slice none 0 0, .bool false, .slice none 0 0, .slice none 0 0] 41)
    simpa using this)
  have HB3 : Hid (Blk (((w.alloc (.cells #[.slice P q p, .bool false, .slice A n c, .slice B m d] 41)).alloc (.cells #[.slice none 0 0, .bool false, .slice none 0 0, .slice none 0 0] 41)).alloc (.cells #[.slice none 0 0, .bool false, .slice none 0 0, .slice none 0 0] 41)) (w.heap.size + 1 + 1) 41 [.slice none 0 0, .bool false, .slice none 0 0, .slice none 0 0]) := Lib.hid (by
    have := Blk.new ((w.alloc (.cells #[.slice P q p, .bool false, .slice A n c, .slice B m d] 41)).alloc (.cells #[.slice none 0 0, .bool false, .slice none 0 0, .slice none 0 0] 41)) 41 [.slice none 0 0, .bool false, .slice none 0 0, .slice none 0 0]
    simpa using this)
  have j0 : ¬ d = k := by omega
  have j1 : (0 : Int) ≤ (k : Int) := by omega
  have j2 : (k : Int) ≤ (d : Int) := by omega
  have j3 : (k : Int) ≤ (m : Int) := by omega
  clear hf hN h hs hi hF hln hk2
  go_enter Tryd.func32, Tryd.ntmps32
  go_wp2_with (first
    | (go_at_call 31; (with_reducible refine (entries_kids _ _ _ _ _ _ _).mono ?_); rintro e w1 ⟨rfl, ho⟩; have HS1 : Hid (w.heap.size + 3 ≤ w1.heap.size) := Lib.hid (by have := ho.size; rw [HZ.out] at this; exact this); (replace HB1 := Lib.hid (HB1.out.later ho)); (replace HB2 := Lib.hid (HB2.out.later ho)); (replace HB3 := Lib.hid (HB3.out.later ho)); (replace HO := Lib.hid (on_new HO.out ho)); clear ho; unfold kidsEnt)
    | (go_at_call 62; (with_reducible refine (HK.out _ HO.out).mono ?_); rintro e w2 ⟨P1, p1, rfl, hsr, ho⟩; have HSR := Lib.hid hsr; have HS2 := Lib.hid (Nat.le_trans HS1.out ho.size); (replace HB1 := Lib.hid (HB1.out.later ho)); (replace HB2 := Lib.hid (HB2.out.later ho)); (replace HB3 := Lib.hid (HB3.out.later ho)); (replace HO := Lib.hid (on_new HO.out ho)); clear ho hsr)
    | (go_at_call 50; (with_reducible refine (HCL.out _ _ HSR.out).mono ?_); rintro e w3 ⟨kv, rfl, hv, ho⟩; (obtain ⟨P2, p2, rfl, hnew⟩ := New.form hv); have HNW := Lib.hid (hnew.mono HS2.out); (replace HB1 := Lib.hid (HB1.out.later ho)); (replace HB2 := Lib.hid (HB2.out.later ho)); (replace HB3 := Lib.hid (HB3.out.later ho)); (replace HO := Lib.hid (on_new HO.out ho)); have hs3 := Lib.hid (Nat.le_trans HS2.out ho.size); (obtain ⟨a0, a1, a2, a3⟩ := HB1.out.four); (obtain ⟨b0, b1, b2, b3⟩ := HB2.out.four); (obtain ⟨d0, d1, d2, d3⟩ := HB3.out.four); clear ho hv hnew))
  obtain ⟨fb0, fb1, fb2, fb3⟩ := HB2.out.melt
  have HH : Hid (∀ W, Only (w.heap.size ≤ ·) w W → w.heap.size + 3 ≤ W.heap.size → Calls Tryd.prog 41 #[.slice (B.map (·.add (k * 2))) (m - k) (d - k), .slice none 0 0] W (KidsFor (fun k => F k ∨ k = w.heap.size + 1 ∨ k = w.heap.size + 1 + 1) W (headK [] (x.kds.drop k)))) := fun W hW hz => by
    have h2 := (HSN.out.2.2.step (F' := fun k => F k ∨ k = w.heap.size + 1 ∨ k = w.heap.size + 1 + 1) (hW.mono fun _ h => .inr h) (fun k hk => by rcases hk with hk | hk | hk; exact .inl hk; exact .inr (by omega); exact .inr (by omega))).drop (k := k) (by omega)
    rw [if_neg j0] at h2
    exact headed_c W _ _ _ _ _ _ [] (fun k hk => by rcases hk with hk | hk | hk; exact Nat.lt_of_lt_of_le (HF.out k hk) hW.size; omega; omega) h2 (Src.nil_ W) (by omega) (by simp)
  have ne0 : w.heap.size ≠ w.heap.size + 1 := by omega
  have ne1 : w.heap.size + 1 ≠ w.heap.size + 1 + 1 := by omega
  have ne2 : w.heap.size + 1 + 1 ≠ w.heap.size + 1 := by omega
  have ne3 : w.heap.size ≠ w.heap.size + 1 + 1 := by omega
  replace HO := Lib.hid (HO.out.drew)
  have HS3 : Hid (w.heap.size + 3 ≤ w3.drew.heap.size) := hs3.out
  clear a0 a1 a2 a3 b0 b1 b2 b3 d0 d1 d2 d3 fb0 fb1 fb2 fb3
  refine wp_region_held_drew (S := (fun w' => w'.cell? ⟨w.heap.size, 0, none⟩ = some (.slice P q p))) (by kernel_rfl) (HB1.out.drew.cell 0) (fun hHeld => ?_)
  refine take_one (i := 0) (d := 39) (oi := ?_) (v := ?_) ?_ (by kernel_rfl) (by kernel_rfl) (by kernel_rfl) (fun _ _ _ h => h) ?_ ?_ ?_ (by assumption) ?_
  case refine_3 => (simp only [List.getElem?_toArray, List.getElem?_cons_zero]; rfl)
  case refine_4 => rfl
  case refine_5 => rfl
  case refine_6 => (intro w' hSw; (try dsimp only at hSw); go_simp; (try with_reducible rfl))
  simp only [Act.put, List.setIfInBounds_toArray, List.set_cons_zero, List.set_cons_succ]
  refine take_one (i := 1) (d := 40) (oi := ?_) (v := ?_) ?_ (by kernel_rfl) (by kernel_rfl) (by kernel_rfl) (fun _ _ _ h => h) ?_ ?_ ?_ (by assumption) ?_
  case refine_3 => (simp only [List.getElem?_toArray, List.getElem?_cons_succ, List.getElem?_cons_zero]; rfl)
  case refine_4 => rfl
  case refine_5 => rfl
  case refine_6 => (intro w' hSw; (try dsimp only at hSw); go_simp; (try with_reducible rfl))
  simp only [Act.put, List.setIfInBounds_toArray, List.set_cons_zero, List.set_cons_succ]
  refine take_one (i := 2) (d := 41) (oi := ?_) (v := ?_) ?_ (by kernel_rfl) (by kernel_rfl) (by kernel_rfl) (fun _ _ _ h => h) ?_ ?_ ?_ (by assumption) ?_
  case refine_3 => (simp only [List.getElem?_toArray, List.getElem?_cons_succ, List.getElem?_cons_zero]; rfl)
  case refine_4 => rfl
  case refine_5 => rfl
  case refine_6 => (intro w' hSw; (try dsimp only at hSw); go_simp; (try with_reducible rfl))
  simp only [Act.put, List.setIfInBounds_toArray, List.set_cons_zero, List.set_cons_succ]
  refine take_one (i := 3) (d := 42) (oi := ?_) (v := ?_) ?_ (by kernel_rfl) (by kernel_rfl) (by kernel_rfl) (fun _ _ _ h => h) ?_ ?_ ?_ (by assumption) ?_
  case refine_3 => (simp only [List.getElem?_toArray, List.getElem?_cons_succ, List.getElem?_cons_zero]; rfl)
  case refine_4 => rfl
  case refine_5 => rfl
  case refine_6 => (intro w' hSw; (try dsimp only at hSw); go_simp; (try with_reducible rfl))
  simp only [Act.put, List.setIfInBounds_toArray, List.set_cons_zero, List.set_cons_succ]
  refine take_one (i := 4) (d := 43) (oi := ?_) (v := ?_) ?_ (by kernel_rfl) (by kernel_rfl) (by kernel_rfl) (fun _ _ _ h => h) ?_ ?_ ?_ (by assumption) ?_
  case refine_3 => (simp only [List.getElem?_toArray, List.getElem?_cons_succ, List.getElem?_cons_zero]; rfl)
  case refine_4 => rfl
  case refine_5 => rfl
  case refine_6 => (intro w' hSw; (try dsimp only at hSw); go_simp; (try with_reducible rfl))
  simp only [Act.put, List.setIfInBounds_toArray, List.set_cons_zero, List.set_cons_succ]
  refine take_one (i := 5) (d := 44) (oi := ?_) (v := ?_) ?_ (by kernel_rfl) (by kernel_rfl) (by kernel_rfl) (fun _ _ _ h => h) ?_ ?_ ?_ (by assumption) ?_
  case refine_3 => (simp only [List.getElem?_toArray, List.getElem?_cons_succ, List.getElem?_cons_zero]; rfl)
  case refine_4 => rfl
  case refine_5 => rfl
  case refine_6 => (intro w' hSw; (try dsimp only at hSw); go_simp; (try with_reducible rfl))
  simp only [Act.put, List.setIfInBounds_toArray, List.set_cons_zero, List.set_cons_succ]
  refine take_one (i := 6) (d := 45) (oi := ?_) (v := ?_) ?_ (by kernel_rfl) (by kernel_rfl) (by kernel_rfl) (fun _ _ _ h => h) ?_ ?_ ?_ (by assumption) ?_
  case refine_3 => (simp only [List.getElem?_toArray, List.getElem?_cons_succ, List.getElem?_cons_zero]; rfl)
  case refine_4 => rfl
  case refine_5 => rfl
  case refine_6 => (intro w' hSw; (try dsimp only at hSw); go_simp; (try with_reducible rfl))
  simp only [Act.put, List.setIfInBounds_toArray, List.set_cons_zero, List.set_cons_succ]
  refine take_one (i := 7) (d := 46) (oi := ?_) (v := ?_) ?_ (by kernel_rfl) (by kernel_rfl) (by kernel_rfl) (fun _ _ _ h => h) ?_ ?_ ?_ (by assumption) ?_
  case refine_3 => (simp only [List.getElem?_toArray, List.getElem?_cons_succ, List.getElem?_cons_zero]; rfl)
  case refine_4 => rfl
  case refine_5 => rfl
  case refine_6 => (intro w' hSw; (try dsimp only at hSw); go_simp; (try with_reducible rfl))
  simp only [Act.put, List.setIfInBounds_toArray, List.set_cons_zero, List.set_cons_succ]
  refine take_one (i := 8) (d := 47) (oi := ?_) (v := ?_) ?_ (by kernel_rfl) (by kernel_rfl) (by kernel_rfl) (fun _ _ _ h => h) ?_ ?_ ?_ (by assumption) ?_
  case refine_3 => (simp only [List.getElem?_toArray, List.getElem?_cons_succ, List.getElem?_cons_zero]; rfl)
  case refine_4 => rfl
  case refine_5 => rfl
  case refine_6 => (intro w' hSw; (try dsimp only at hSw); go_simp; (try with_reducible rfl))
  simp only [Act.put, List.setIfInBounds_toArray, List.set_cons_zero, List.set_cons_succ]
  refine take_one (i := 9) (d := 48) (oi := ?_) (v := ?_) ?_ (by kernel_rfl) (by kernel_rfl) (by kernel_rfl) (fun _ _ _ h => h) ?_ ?_ ?_ (by assumption) ?_
  case refine_3 => (simp only [List.getElem?_toArray, List.getElem?_cons_succ, List.getElem?_cons_zero]; rfl)
  case refine_4 => rfl
  case refine_5 => rfl
  case refine_6 => (intro w' hSw; (try dsimp only at hSw); go_simp; (try with_reducible rfl))
  simp only [Act.put, List.setIfInBounds_toArray, List.set_cons_zero, List.set_cons_succ]
  refine take_one (i := 10) (d := 49) (oi := ?_) (v := ?_) ?_ (by kernel_rfl) (by kernel_rfl) (by kernel_rfl) (fun _ _ _ h => h) ?_ ?_ ?_ (by assumption) ?_
  case refine_3 => (simp only [List.getElem?_toArray, List.getElem?_cons_succ, List.getElem?_cons_zero]; rfl)
  case refine_4 => rfl
  case refine_5 => rfl
  case refine_6 => (intro w' hSw; (try dsimp only at hSw); go_simp; (try with_reducible rfl))
  simp only [Act.put, List.setIfInBounds_toArray, List.set_cons_zero, List.set_cons_succ]
  refine take_one (i := 11) (d := 50) (oi := ?_) (v := ?_) ?_ (by kernel_rfl) (by kernel_rfl) (by kernel_rfl) (fun _ _ _ h => h) ?_ ?_ ?_ (by assumption) ?_
  case refine_3 => (simp only [List.getElem?_toArray, List.getElem?_cons_succ, List.getElem?_cons_zero]; rfl)
  case refine_4 => rfl
  case refine_5 => rfl
  case refine_6 => (intro w' hSw; (try dsimp only at hSw); go_simp; (try with_reducible rfl))
  simp only [Act.put, List.setIfInBounds_toArray, List.set_cons_zero, List.set_cons_succ]
  refine wpAnyH_ready (rs := [12]) (by kernel_rfl) (by simp) ?_
  refine AllReadyH.cons (o := ?_) ?_ (fun K hK => ?_) AllReadyH.nil
  case refine_2 => (simp only [List.getElem?_toArray, List.getElem?_cons_succ, List.getElem?_cons_zero]; rfl)
  go_simp
  (go_at_call 41; (with_reducible refine (HH.out _ HO.out HS3.out).mono ?_); rintro e w4 ⟨B2, m2, D2, rfl, hk4, ho⟩; have HKD := Lib.hid hk4; (replace HB1 := Lib.hid (HB1.out.drew.later ho)); (replace HB2 := Lib.hid (HB2.out.drew.later ho)); (replace HB3 := Lib.hid (HB3.out.drew.later ho)); (replace HNW := Lib.hid (HNW.out.later ((Only.refl _ _).drew.trans ho))); (replace HO := Lib.hid (on_new HO.out ho)); (obtain ⟨b0, b1, b2, b3⟩ := HB2.out.four); (obtain ⟨d0, d1, d2, d3⟩ := HB3.out.four); (obtain ⟨fb0, fb1, fb2, fb3⟩ := HB2.out.melt); (obtain ⟨fd0, fd1, fd2, fd3⟩ := HB3.out.melt); have HS4 := Lib.hid (Nat.le_trans HS3.out ho.size); clear ho hk4)
  go_wp2_with (fail)
  refine hK.out _ _ (HB1.out.cell 0) (fun hHeld => ?_)
  clear hK K
  try simp only [Act.put, List.setIfInBounds_toArray, List.set_cons_zero, List.set_cons_succ]
  refine take_one (i := 13) (d := 52) (oi := ?_) (v := ?_) ?_ (by kernel_rfl) (by kernel_rfl) (by kernel_rfl) (fun _ _ _ h => h) ?_ ?_ ?_ (by assumption) ?_
  case refine_3 => (simp only [List.getElem?_toArray, List.getElem?_cons_succ, List.getElem?_cons_zero]; rfl)
  case refine_4 => rfl
  case refine_5 => rfl
  case refine_6 => (intro w' hSw; (try dsimp only at hSw); go_simp; (try with_reducible rfl))
  simp only [Act.put, List.setIfInBounds_toArray, List.set_cons_zero, List.set_cons_succ]
  refine take_one (i := 14) (d := 53) (oi := ?_) (v := ?_) ?_ (by kernel_rfl) (by kernel_rfl) (by kernel_rfl) (fun _ _ _ h => h) ?_ ?_ ?_ (by assumption) ?_
  case refine_3 => (simp only [List.getElem?_toArray, List.getElem?_cons_succ, List.getElem?_cons_zero]; rfl)
  case refine_4 => rfl
  case refine_5 => rfl
  case refine_6 => (intro w' hSw; (try dsimp only at hSw); go_simp; (try with_reducible rfl))
  simp only [Act.put, List.setIfInBounds_toArray, List.set_cons_zero, List.set_cons_succ]
  refine wpAnyH_ready (rs := [15]) (by kernel_rfl) (by simp) ?_
  refine AllReadyH.cons (o := ?_) ?_ (fun K hK => ?_) AllReadyH.nil
  case refine_2 => (simp only [List.getElem?_toArray, List.getElem?_cons_succ, List.getElem?_cons_zero]; rfl)
  go_simp
  refine hK.out _ _ (((((HB1.out.far (p := ⟨w.heap.size + 1, 0, none⟩) ne0 _).far (p := ⟨w.heap.size + 1, 1, none⟩) ne0 _).far (p := ⟨w.heap.size + 1, 2, none⟩) ne0 _).far (p := ⟨w.heap.size + 1, 3, none⟩) ne0 _).cell 0) (fun hHeld => ?_)
  clear hK K
  try simp only [Act.put, List.setIfInBounds_toArray, List.set_cons_zero, List.set_cons_succ]
  refine wpAnyH_ready (rs := [16]) (by kernel_rfl) (by simp) ?_
  refine AllReadyH.cons (o := ?_) ?_ (fun K hK => ?_) AllReadyH.nil
  case refine_2 => (simp only [List.getElem?_toArray, List.getElem?_cons_succ, List.getElem?_cons_zero]; rfl)
  go_simp
  refine hK.out _ _ (((((((((HB1.out.far (p := ⟨w.heap.size + 1, 0, none⟩) ne0 _).far (p := ⟨w.heap.size + 1, 1, none⟩) ne0 _).far (p := ⟨w.heap.size + 1, 2, none⟩) ne0 _).far (p := ⟨w.heap.size + 1, 3, none⟩) ne0 _).far (p := ⟨w.heap.size + 1 + 1, 0, none⟩) ne3 _).far (p := ⟨w.heap.size + 1 + 1, 1, none⟩) ne3 _).far (p := ⟨w.heap.size + 1 + 1, 2, none⟩) ne3 _).far (p := ⟨w.heap.size + 1 + 1, 3, none⟩) ne3 _).cell 0) (fun hHeld => ?_)
  clear hK K
  try simp only [Act.put, List.setIfInBounds_toArray, List.set_cons_zero, List.set_cons_succ]
  refine wpAnyH_done (by kernel_rfl) ?_ _
  obtain ⟨W, hW⟩ : ∃ W, W = (((((((((w4.setCell ⟨w.heap.size + 1, 0, none⟩ (.slice P q p)).setCell ⟨w.heap.size + 1, 1, none⟩ (.bool false)).setCell ⟨w.heap.size + 1, 2, none⟩ (.slice none 0 0)).setCell ⟨w.heap.size + 1, 3, none⟩ (.slice B k k)).setCell ⟨w.heap.size + 1 + 1, 0, none⟩ (.slice P2 i.1.length p2)).setCell ⟨w.heap.size + 1 + 1, 1, none⟩ (.bool false)).setCell ⟨w.heap.size + 1 + 1, 2, none⟩ (.slice none 0 0)).setCell ⟨w.heap.size + 1 + 1, 3, none⟩ (.slice B2 m2 D2))) := ⟨_, rfl⟩
  have hB2 : Blk W (w.heap.size + 1) 41 [.slice P q p, .bool false, .slice none 0 0, .slice B k k] := by rw [hW]; exact ((((((((HB2.out.set_ 0 _).set_ 1 _).set_ 2 _).set_ 3 _).far (p := ⟨w.heap.size + 1 + 1, 0, none⟩) ne1 _).far (p := ⟨w.heap.size + 1 + 1, 1, none⟩) ne1 _).far (p := ⟨w.heap.size + 1 + 1, 2, none⟩) ne1 _).far (p := ⟨w.heap.size + 1 + 1, 3, none⟩) ne1 _)
  have hB3 : Blk W (w.heap.size + 1 + 1) 41 [.slice P2 i.1.length p2, .bool false, .slice none 0 0, .slice B2 m2 D2] := by rw [hW]; exact ((((((((HB3.out.far (p := ⟨w.heap.size + 1, 0, none⟩) ne2 _).far (p := ⟨w.heap.size + 1, 1, none⟩) ne2 _).far (p := ⟨w.heap.size + 1, 2, none⟩) ne2 _).far (p := ⟨w.heap.size + 1, 3, none⟩) ne2 _).set_ 0 _).set_ 1 _).set_ 2 _).set_ 3 _)
  have hOs : Only (fun k => k = w.heap.size + 1 ∨ k = w.heap.size + 1 + 1) w4 W := by rw [hW]; exact (((((((((Only.refl _ _).setCell (p := ⟨w.heap.size + 1, 0, none⟩) (.inl rfl) _).setCell (p := ⟨w.heap.size + 1, 1, none⟩) (.inl rfl) _).setCell (p := ⟨w.heap.size + 1, 2, none⟩) (.inl rfl) _).setCell (p := ⟨w.heap.size + 1, 3, none⟩) (.inl rfl) _).setCell (p := ⟨w.heap.size + 1 + 1, 0, none⟩) (.inr rfl) _).setCell (p := ⟨w.heap.size + 1 + 1, 1, none⟩) (.inr rfl) _).setCell (p := ⟨w.heap.size + 1 + 1, 2, none⟩) (.inr rfl) _).setCell (p := ⟨w.heap.size + 1 + 1, 3, none⟩) (.inr rfl) _)
  have hO : Only (w.heap.size ≤ ·) w W := HO.out.trans (hOs.mono fun k hk => by omega)
  rw [← hW]
  clear hW b0 b1 b2 b3 d0 d1 d2 d3
  obtain ⟨b0, b1, b2, b3⟩ := hB2.four
  obtain ⟨d0, d1, d2, d3⟩ := hB3.four
  have hNW := (HNW.out.keep hOs fun k hk _ e => by omega).mono (b' := w.heap.size) (by omega)
  try go_wp2
  refine bodyPost_ret (v := .tuple #[.agg #[.slice P q p, .bool false, .slice none 0 0, .slice B k k], .agg #[.slice P2 i.1.length p2, .bool false, .slice none 0 0, .slice B2 m2 D2]]) (by simp [results, Tryd.results32, go_sem, b0, b1, b2, b3, d0, d1, d2, d3]) rfl ?_
  unfold CutTo
  rw [HKN.out, HX.out, fst_kids HX.out, snd_kids HX.out]
  exact ⟨_, _, _, _, _, _, _, _, _, _, _, _, _, _, rfl, ⟨rfl, SRw.nil_ _ _, (HSN.out.2.2.later hO).cut (by omega)⟩, New.stab (w := w) hNW HF.out, ⟨rfl, SRw.nil_ _ _, HKD.out.step (hOs.mono fun k hk => .inl (.inr hk)) fun k hk => .inl (.inl hk)⟩, hO⟩

end Go.Proofs.YtjbbljnfgpggkaaDoor
