/-
  The document's disk: over, Image, is.
-/
import Derived.Test.YtbpldkhgiddmlaaGreatDoorPua
import Derived.Test.YtbpldkhgiddmlaaGreatDoorMzp
set_option linter.unusedVariables false
namespace Go.Proofs.YtbpldkhgiddmlaaGreatDoor
open Go.RowKit

def kwE : El Dk.Wr where
  z := 2
  At w x cs := ∃ A c, cs = [.int .i64 (x.1 : Nat), .slice A x.2.length c] ∧ Src w (.slice A x.2.length c) x.2
  len := fun ⟨A, c, e, _⟩ => by rw [e]; rfl
  one := fun ⟨A, c, e, _⟩ u hu => by
    rw [e] at hu
    simp at hu
    rcases hu with rfl | rfl <;> rfl
  later := fun ⟨A, c, e, h1⟩ ho => ⟨A, c, e, h1.later ho⟩
abbrev Kws := Rw kwE
theorem own_le {w : World} {B B' z n : Nat} {t : TypeId} {v : Value} {C : List Value} (h : w.ownsRow B t z v n C) (hB : B' ≤ B) : w.ownsRow B' t z v n C := by
  refine ⟨h.1, ?_⟩
  rcases h.2 with h | ⟨g, cap, cur, e, hb, r⟩
  · exact .inl h
  · exact .inr ⟨g, cap, cur, e, Nat.le_trans hB hb, r⟩
theorem kws_get {w : World} {A : Option Addr} {n c k : Nat} {l : List Dk.Wr} (h : Kws w (.slice A n c) l) (hk : k < n) : ∃ (b off : Nat) (x : Dk.Wr) (P : Option Addr) (cp : Nat), A = some ⟨b, off, none⟩ ∧ l[k]? = some x ∧ w.cell? ⟨b, off + k * 2, none⟩ = some (.int .i64 (x.1 : Nat)) ∧ w.cell? ⟨b, off + k * 2 + 1, none⟩ = some (.slice P x.2.length cp) ∧ Src w (.slice P x.2.length cp) x.2 := by
  obtain ⟨b, off, x, cs, e, hb, hx, ⟨P, cp, rfl, h1⟩, hc⟩ := Rw.at_ (E := kwE) (by decide) h hk
  exact ⟨b, off, x, P, cp, e, hx, hc 0 _ rfl, hc 1 _ rfl, h1⟩
/-- Bytes of the call's own came back. -/
def GaveB8 (w : World) (n : Nat) (B : Bytes) (e : Ending) (w' : World) : Prop := ∃ A c, e = .returned (.slice A n c) ∧ w'.ownsRow w.heap.size 5 1 (.slice A n c) n (cb B) ∧ B.length = n ∧ Only (w.heap.size ≤ ·) w w'
theorem src_drop {w : World} {b o : Nat} {n q c : Nat} {xs : Bytes} (h : Src w (.slice (some ⟨b, o, none⟩) n c) xs) (hq : q ≤ n) : Src w (.slice (some ⟨b, o + q, none⟩) (n - q) (c - q)) (xs.drop q) := by
  have hl : n = xs.length := by obtain ⟨A', c', e, _⟩ := h; injection e
  have h1 := src_part h (a := q) (z := n) (by omega) (by omega)
  rwa [List.take_of_length_le (by rw [List.length_drop]; omega)] at h1
theorem src_zero {w : World} {ad : Addr} {n c : Nat} {xs : Bytes} (h : Src w (.slice (some ad) n c) xs) : Src w (.slice (some ad) 0 0) [] := by
  obtain ⟨A', c', e, ht, _⟩ := h
  cases e
  exact ⟨some ad, 0, rfl, ht.take 0 (Nat.zero_le _), (fun e => by cases e), Nat.le_refl _, by decide⟩
set_option maxRecDepth 100000 in
set_option maxHeartbeats 12800000 in
theorem kover_c (w : World) (b o n c : Nat) (B : Bytes) (at_ : Nat) (P : Option Addr) (pc : Nat) (ys : Bytes) (hs : Src w (.slice (some ⟨b, o, none⟩) n c) B) (hn : B.length = n) (hy : Src w (.slice P 64 pc) ys) (hyl : ys.length = 64) (hf : at_ * 64 + 64 ≤ n) (hn2 : n ≤ 4194304) :
    Calls Tryz.prog 38 #[.slice (some ⟨b, o, none⟩) n c, .agg #[.int .i64 (at_ : Nat), .slice P 64 pc]] w (GaveB8 w n (over B (at_ * 64) ys)) := by
  obtain ⟨w1, hw1⟩ : ∃ W0, W0 = w.alloc (.cells #[.int .i64 (at_ : Nat), .slice P 64 pc] 87) := ⟨_, rfl⟩
  have HO1 : Hid (Only (w.heap.size ≤ ·) w w1) := Lib.hid (by rw [hw1]; exact (Only.refl _ w).alloc (fun _ h => h) _)
  have HA : Hid (Blk w1 w.heap.size 87 [.int .i64 (at_ : Nat), .slice P 64 pc]) := Lib.hid (by rw [hw1]; exact Blk.new w 87 _)
  have HE1 := Lib.hid hw1
  obtain ⟨q, hq⟩ : ∃ q, q = at_ * 64 := ⟨_, rfl⟩
  obtain ⟨q2, hq2⟩ : ∃ q2, q2 = q + 64 := ⟨_, rfl⟩
  have hnc : n ≤ c := by obtain ⟨A', c', e, _, _, h5, _⟩ := hs; cases e; omega
  have HS := Lib.hid (hs.later HO1.out)
  have HY := Lib.hid (hy.later HO1.out)
  have HNE := Lib.hid hn
  have HYL := Lib.hid hyl
  rw [← hq]
  have b1 : wrap64 (64 * (at_ : Int)) = (q : Int) := by rw [IntWalk.wrap64_in _ (by omega)]; omega
  have b2 : wrap64 ((q : Int) + 64) = (q2 : Int) := by rw [IntWalk.wrap64_in _ (by omega)]; omega
  have b3 : (q : Int) ≤ (n : Int) := by omega
  have b4 : (q : Int) ≤ (c : Int) := by omega
  have b5 : q ≤ c := by omega
  have b6 : (q2 : Int) ≤ (n : Int) := by omega
  have b7 : (q2 : Int) ≤ (c : Int) := by omega
  have b8 : q2 ≤ c := by omega
  have b9 : (0 : Int) ≤ (q : Int) := by omega
  have b10 : (0 : Int) ≤ (q2 : Int) := by omega
  have HB1 : Hid (q2 ≤ n ∧ q2 = q + 64 ∧ n ≤ 4194304) := Lib.hid ⟨by omega, hq2, hn2⟩
  have HSQ := Lib.hid (src_cut HS.out (by omega) b5)
  have HCN := Lib.hid hnc
  have HSZ := Lib.hid (src_zero HS.out)
  have HSD := Lib.hid (src_drop HS.out (q := q2) (by omega))
  have HXA : Hid (Only (w1.heap.size ≤ ·) w1 (w1.alloc (.cells #[] 5))) := Lib.hid ((Only.refl _ w1).alloc (fun _ h => h) _)
  have i0 : (w1.alloc (.cells #[] 5)).cell? ⟨w.heap.size, 0, none⟩ = some (.int .i64 (at_ : Nat)) := (HA.out.only HXA.out (Nat.not_le.2 HA.out.lt)).cell 0
  clear hw1 hs hy hn hyl hf hn2 hq hq2 hnc
  go_enter Tryz.func38, Tryz.ntmps38
  go_upto_region 1 with (fail)
  rw [← HE1.out]
  clear HE1
  go_upto_region 2 with (at_builtin; refine app8 rfl (.tmp 6) (.tmp 11) rfl w1.heap.size 0 q _ _ [] (B.take q) rfl rfl (own8_none w1) rfl (by rw [List.length_take, HNE.out]; have h := HB1.out; omega) (HSQ.out.later HXA.out) (by have h := HB1.out; omega) (by simp) ?_; intro A3 c3 w3 hr ho; rw [List.nil_append] at hr; (simp only [Nat.zero_add] at hr ⊢); have HR3 := Lib.hid hr; have HX3 : Hid (Only (w1.heap.size ≤ ·) w1 w3) := Lib.hid (HXA.out.trans ho); clear hr ho i0)
  have i1 : w3.cell? ⟨w.heap.size, 1, none⟩ = some (.slice P 64 pc) := (HA.out.only HX3.out (Nat.not_le.2 HA.out.lt)).cell 1
  go_upto_region 3 with (at_builtin; refine app8 rfl (.tmp 13) (.tmp 15) rfl w1.heap.size q 64 _ _ (B.take q) ys rfl (by rw [List.length_take, HNE.out]; have h := HB1.out; omega) HR3.out rfl HYL.out (HY.out.later HX3.out) (by have h := HB1.out; omega) HX3.out.size ?_; intro A4 c4 w4 hr ho; have HR4 := Lib.hid hr; have HX4 : Hid (Only (w1.heap.size ≤ ·) w1 w4) := Lib.hid (HX3.out.trans ho); clear hr ho i1)
  have i0 : w4.cell? ⟨w.heap.size, 0, none⟩ = some (.int .i64 (at_ : Nat)) := (HA.out.only HX4.out (Nat.not_le.2 HA.out.lt)).cell 0
  by_cases hcq : c = q2
  · have hnq : n = q2 := by have h := HB1.out; have h2 := HCN.out; omega
    subst hcq hnq
    go_wp2_with (at_builtin; refine app8 rfl (.tmp 17) (.tmp 23) rfl w1.heap.size (q + 64) 0 _ _ (B.take q ++ ys) [] rfl (by rw [List.length_append, List.length_take, HNE.out, HYL.out]; have h := HB1.out; omega) HR4.out rfl rfl (HSZ.out.later HX4.out) (by have h := HB1.out; omega) HX4.out.size ?_; intro A5 c5 w5 hr ho; have HR5 := Lib.hid hr; have HX5 : Hid (Only (w1.heap.size ≤ ·) w1 w5) := Lib.hid (HX4.out.trans ho); clear hr ho i0)
    go_ret
    have hsum : q + 64 + 0 = n := by have h := HB1.out; omega
    have h5 := HR5.out
    rw [hsum] at h5 ⊢
    have he : B.take q ++ ys ++ [] = over B q ys := by
      unfold over
      rw [HYL.out, List.drop_eq_nil_of_le (by rw [HNE.out]; have h := HB1.out; omega), List.append_assoc]
    rw [he] at h5
    exact ⟨A5, c5, rfl, own_le h5 HO1.out.size, (over_length _ _ _ (by rw [HYL.out, HNE.out]; have h := HB1.out; omega)).trans HNE.out, on_new HO1.out HX5.out⟩
  · have hcq2 : ¬ c = q2 := hcq
    go_wp2_with (at_builtin; refine app8 rfl (.tmp 17) (.tmp 23) rfl w1.heap.size (q + 64) (n - q2) _ _ (B.take q ++ ys) (B.drop q2) rfl (by rw [List.length_append, List.length_take, HNE.out, HYL.out]; have h := HB1.out; omega) HR4.out rfl (by rw [List.length_drop, HNE.out]) (HSD.out.later HX4.out) (by have h := HB1.out; omega) HX4.out.size ?_; intro A5 c5 w5 hr ho; have HR5 := Lib.hid hr; have HX5 : Hid (Only (w1.heap.size ≤ ·) w1 w5) := Lib.hid (HX4.out.trans ho); clear hr ho i0)
    go_ret
    have hsum : q + 64 + (n - q2) = n := by have h := HB1.out; omega
    have h5 := HR5.out
    rw [hsum] at h5 ⊢
    have he : B.take q ++ ys ++ B.drop q2 = over B q ys := by
      unfold over
      rw [HYL.out, HB1.out.2.1, List.append_assoc]
    rw [he] at h5
    exact ⟨A5, c5, rfl, own_le h5 HO1.out.size, (over_length _ _ _ (by rw [HYL.out, HNE.out]; have h := HB1.out; omega)).trans HNE.out, on_new HO1.out HX5.out⟩
end Go.Proofs.YtbpldkhgiddmlaaGreatDoor
