/-
  The document's disk: Image, is.
-/
import Derived.Test.YtbpldkhgiddmlaaGreatDoorPub
import Derived.Deep.LoopGhost
set_option linter.unusedVariables false
namespace Go.Proofs.YtbpldkhgiddmlaaGreatDoor
open Go.RowKit

def GaveIm (w : World) (n : Nat) (B : Bytes) (e : Ending) (w' : World) : Prop := ∃ A c, e = .returned (.slice A n c) ∧ Src w' (.slice A n c) B ∧ (0 < n → ∃ g, A = some ⟨g, 0, none⟩ ∧ w.heap.size ≤ g) ∧ Only (w.heap.size ≤ ·) w w'
set_option maxRecDepth 100000 in
set_option maxHeartbeats 12800000 in
theorem kImage_c (w : World) (L : Int) (BA : Option Addr) (bn bc : Nat) (RA : Option Addr) (rn rc : Nat) (ops fu : Int) (dn : Bool) (B : Bytes) (row : List Dk.Wr) (N : Nat) (hs : Src w (.slice BA bn bc) B) (hn : B.length = bn) (hN : bn = N * 64) (hN2 : N ≤ 65536) (hr : Kws w (.slice RA rn rc) row) (hf : Dk.Fits N row) (hrn : rn ≤ 1000000) :
    Calls Tryz.prog 40 #[.agg #[.int .i64 L, .slice BA bn bc, .slice RA rn rc, .int .i64 ops, .int .i64 fu, .bool dn]] w (GaveIm w bn (Dk.look B row)) := by
  obtain ⟨w1, hw1⟩ : ∃ W0, W0 = w.alloc (.cells #[.int .i64 L, .slice BA bn bc, .slice RA rn rc, .int .i64 ops, .int .i64 fu, .bool dn] 34) := ⟨_, rfl⟩
  have HO1 : Hid (Only (w.heap.size ≤ ·) w w1) := Lib.hid (by rw [hw1]; exact (Only.refl _ w).alloc (fun _ h => h) _)
  have HA : Hid (Blk w1 w.heap.size 34 [.int .i64 L, .slice BA bn bc, .slice RA rn rc, .int .i64 ops, .int .i64 fu, .bool dn]) := Lib.hid (by rw [hw1]; exact Blk.new w 34 _)
  have HE1 := Lib.hid hw1
  have HS := Lib.hid (hs.later HO1.out)
  have HR := Lib.hid (Rw.later hr HO1.out)
  have HNE := Lib.hid hn
  have HNN := Lib.hid (And.intro hN hN2)
  have HF := Lib.hid hf
  have HRL := Lib.hid hr.len
  have HCP := Lib.hid hr.cap
  have HXA : Hid (Only (w1.heap.size ≤ ·) w1 (w1.alloc (.cells #[] 5))) := Lib.hid ((Only.refl _ w1).alloc (fun _ h => h) _)
  have i1 : (w1.alloc (.cells #[] 5)).cell? ⟨w.heap.size, 1, none⟩ = some (.slice BA bn bc) := (HA.out.only HXA.out (Nat.not_le.2 HA.out.lt)).cell 1
  have hbl : bn ≤ 4194304 := by omega
  clear hw1 hs hn hN hN2 hr hf
  go_enter Tryz.func40, Tryz.ntmps40
  go_upto_region 1 with (fail)
  rw [← HE1.out]
  clear HE1
  go_wp2_with (at_builtin; refine app8 rfl (.tmp 5) (.tmp 7) rfl w1.heap.size 0 bn _ _ [] B rfl rfl (own8_none w1) rfl HNE.out (HS.out.later HXA.out) (by omega) (by simp) ?_; intro A3 c3 w3 hr ho; rw [List.nil_append] at hr; (simp only [Nat.zero_add] at hr ⊢); have HR3 := Lib.hid hr; have HX3 : Hid (Only (w1.heap.size ≤ ·) w1 w3) := Lib.hid (HXA.out.trans ho); clear hr ho i1)
  go_loopg [3, 4] rn (fun gk s i wr => ∃ (k : Nat) (R : Option Addr) (t Bs : Nat), gk = rn - k ∧ k ≤ rn ∧ s = .slice R bn t ∧ i = .int .i64 (k : Int) ∧ Hid (wr.ownsRow Bs 5 1 (.slice R bn t) bn (cb (Dk.look B (row.take k)))) ∧ Hid ((Dk.look B (row.take k)).length = bn ∧ w.heap.size ≤ Bs) ∧ Hid (Only (w1.heap.size ≤ ·) w1 wr))
  case atStart => exact ⟨0, A3, c3, w1.heap.size, rfl, Nat.zero_le _, rfl, rfl, HR3, Lib.hid ⟨HNE.out, HO1.out.size⟩, HX3⟩
  case round =>
    obtain ⟨k, R, t, Bs, rfl, hk, rfl, rfl, HW, HLK, HO⟩ := hrel
    have i2 : wr.cell? ⟨w.heap.size, 2, none⟩ = some (.slice RA rn rc) := (HA.out.only HO.out (Nat.not_le.2 HA.out.lt)).cell 2
    by_cases hlt : k < rn
    · have hlt' : (k : Int) < (rn : Int) := by omega
      obtain ⟨b, off, x, P, cp, rfl, hx, q0, q1, hsx⟩ := kws_get (Rw.later HR.out HO.out) hlt
      have hfx := HF.out x (List.mem_of_getElem? hx)
      rw [hfx.2] at q1 hsx
      obtain ⟨g, t', hv, _⟩ := own_form HW.out (by have h := HNN.out; omega)
      simp only [Value.slice.injEq, true_and] at hv
      obtain ⟨rfl, rfl⟩ := hv
      have HOV := Lib.hid (kover_c wr g 0 bn t (Dk.look B (row.take k)) x.1 P cp x.2 (own8_src HW.out HLK.out.1) HLK.out.1 hsx hfx.2 (by have h := HNN.out; omega) (by omega))
      have HTK : Hid (Dk.look B (row.take (k + 1)) = over (Dk.look B (row.take k)) (x.1 * 64) x.2) := Lib.hid (by
        rw [List.take_add_one, hx, Dk.look_append]
        rfl)
      obtain ⟨x1, hx1⟩ : ∃ z, z = x.1 := ⟨_, rfl⟩
      rw [← hx1] at q0 HOV HTK
      clear hfx hsx hx hx1
      go_wp2_with (go_at_call 38; (with_reducible refine HOV.out.mono ?_); rintro e w4 ⟨A4, c4, rfl, hr, hl, ho⟩; have HR4 := Lib.hid hr; have HL4 := Lib.hid hl; have HX4 := Lib.hid (on_new HO.out ho); clear hr hl ho)
      go_roundg (rn - (k + 1))
      case measure => omega
      case rel => exact ⟨k + 1, A4, c4, _, rfl, by omega, rfl, by go_num, Lib.hid (by rw [HTK.out]; exact HR4.out), Lib.hid ⟨by rw [HTK.out]; exact HL4.out, Nat.le_trans (on_new HO1.out HO.out).size (Nat.le_refl _)⟩, HX4⟩
    · obtain rfl : k = rn := by omega
      have hkm : ¬ (k : Int) < (k : Int) := by omega
      have ht : row.take k = row := by rw [HRL.out, List.take_length]
      rw [ht] at HW HLK
      go_wp2
      go_ret
      exact ⟨R, t, rfl, own8_src HW.out HLK.out.1, fun h9 => (by obtain ⟨g, t', hv, hg9⟩ := own_form HW.out h9; cases hv; exact ⟨g, rfl, Nat.le_trans HLK.out.2 hg9⟩), on_new HO1.out HO.out⟩
def hasK (N : Nat) (a m : Int) : Bool := decide (0 ≤ a) && (decide (0 ≤ m) && decide (m ≤ N - a))
set_option maxRecDepth 100000 in
set_option maxHeartbeats 6400000 in
theorem kis_c (w : World) (L : Int) (BA : Option Addr) (bn bc : Nat) (RA : Option Addr) (rn rc : Nat) (ops fu : Int) (dn : Bool) (N : Nat) (hN : bn = N * 64) (hN2 : N ≤ 65536) (a m : Int) (ha : I64v a) :
    Calls Tryz.prog 39 #[.agg #[.int .i64 L, .slice BA bn bc, .slice RA rn rc, .int .i64 ops, .int .i64 fu, .bool dn], .int .i64 a, .int .i64 m] w (Told w (.bool (hasK N a m))) := by
  obtain ⟨w1, hw1⟩ : ∃ W0, W0 = w.alloc (.cells #[.int .i64 L, .slice BA bn bc, .slice RA rn rc, .int .i64 ops, .int .i64 fu, .bool dn] 34) := ⟨_, rfl⟩
  have HO1 : Hid (Only (w.heap.size ≤ ·) w w1) := Lib.hid (by rw [hw1]; exact (Only.refl _ w).alloc (fun _ h => h) _)
  have HA : Hid (Blk w1 w.heap.size 34 [.int .i64 L, .slice BA bn bc, .slice RA rn rc, .int .i64 ops, .int .i64 fu, .bool dn]) := Lib.hid (by rw [hw1]; exact Blk.new w 34 _)
  have HE1 := Lib.hid hw1
  have i1 : w1.cell? ⟨w.heap.size, 1, none⟩ = some (.slice BA bn bc) := HA.out.cell 1
  have d1 : Int.tdiv (bn : Int) 64 = (N : Int) := by rw [Int.tdiv_eq_ediv_of_nonneg (Int.natCast_nonneg bn)]; omega
  have d2 : (bn : Int) / 64 = (N : Int) := by omega
  obtain ⟨z, hz⟩ : ∃ z, z = hasK N a m := ⟨_, rfl⟩
  rw [← hz]
  unfold hasK at hz
  unfold I64v at ha
  clear hw1 hN
  by_cases h1 : 0 ≤ a
  · by_cases h2 : 0 ≤ m
    · by_cases h3 : a ≤ (N : Int)
      · have b1 : wrap64 ((N : Int) - a) = (N : Int) - a := IntWalk.wrap64_in _ (by omega)
        by_cases h4 : m ≤ (N : Int) - a
        · have e : Hid (z = true) := Lib.hid (by rw [hz, decide_eq_true h1, decide_eq_true h2, decide_eq_true h4]; rfl)
          clear hz
          go_enter Tryz.func39, Tryz.ntmps39
          go_upto_region 1 with (fail)
          rw [← HE1.out]
          clear HE1
          go_wp2
          go_ret
          rw [e.out]
          exact ⟨rfl, HO1.out⟩
        · have e : Hid (z = false) := Lib.hid (by rw [hz, decide_eq_false h4, Bool.and_false, Bool.and_false])
          clear hz
          go_enter Tryz.func39, Tryz.ntmps39
          go_upto_region 1 with (fail)
          rw [← HE1.out]
          clear HE1
          go_wp2
          go_ret
          rw [e.out]
          exact ⟨rfl, HO1.out⟩
      · have e : Hid (z = false) := Lib.hid (by rw [hz, decide_eq_false (p := m ≤ (N : Int) - a) (by omega), Bool.and_false, Bool.and_false])
        clear hz
        go_enter Tryz.func39, Tryz.ntmps39
        go_upto_region 1 with (fail)
        rw [← HE1.out]
        clear HE1
        go_wp2
        go_ret
        rw [e.out]
        exact ⟨rfl, HO1.out⟩
    · have e : Hid (z = false) := Lib.hid (by rw [hz, decide_eq_false h2, Bool.false_and, Bool.and_false])
      clear hz
      go_enter Tryz.func39, Tryz.ntmps39
      go_upto_region 1 with (fail)
      rw [← HE1.out]
      clear HE1
      go_wp2
      go_ret
      rw [e.out]
      exact ⟨rfl, HO1.out⟩
  · have e : Hid (z = false) := Lib.hid (by rw [hz, decide_eq_false h1, Bool.false_and])
    clear hz
    go_enter Tryz.func39, Tryz.ntmps39
    go_upto_region 1 with (fail)
    rw [← HE1.out]
    clear HE1
    go_wp2
    go_ret
    rw [e.out]
    exact ⟨rfl, HO1.out⟩
end Go.Proofs.YtbpldkhgiddmlaaGreatDoor
