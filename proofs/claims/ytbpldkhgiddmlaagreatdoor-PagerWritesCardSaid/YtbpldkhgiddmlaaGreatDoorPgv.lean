/-
  bytes.Repeat of one byte 7, 256 times.
-/
import Derived.Test.YtbpldkhgiddmlaaGreatDoorGa
import Derived.Test.YtbpldkhgiddmlaaGreatDoorPgx
import Derived.Lib.MakeNoZero
import Derived.Laws.Externs
import Derived.Laws.CopyOwn
import Derived.Deep.RegionLaw
set_option linter.unusedVariables false
namespace Go.Proofs.YtbpldkhgiddmlaaGreatDoor
open Go.RowKit

theorem Mul_c (w : World) : Calls Tryz.prog 58 #[.int .u64 1, .int .u64 256] w fun e w' => e = .returned (.tuple #[.int .u64 0, .int .u64 256]) ∧ w = w' := by
  have h64 : Calls Tryz.prog 79 #[.int .u64 1, .int .u64 256] w fun e w' => e = .returned (.tuple #[.int .u64 0, .int .u64 256]) ∧ w = w' := by
    go_enter Tryz.func79, Tryz.ntmps79
    go_wp2
    go_ret2
    exact ⟨rfl, rfl⟩
  go_enter Tryz.func58, Tryz.ntmps58
  go_wp2_with (go_at_call 79; refine h64.mono ?_; rintro e w' ⟨rfl, rfl⟩)
  go_ret2
  exact ⟨rfl, rfl⟩

def sev8 : Value := .int .u8 7

/-- In the midst: the block g, of which the first k bytes are 1. -/
def Sevs (w0 wr : World) (g L k : Nat) : Prop := ∃ rest : List Value, Blk wr g 5 (List.replicate k sev8 ++ rest) ∧ k + rest.length = L ∧ Below w0.heap.size w0 wr

theorem sevs_splice (k m : Nat) (rest : List Value) : splice (List.replicate k sev8 ++ rest) k (List.replicate m sev8) = List.replicate (k + m) sev8 ++ rest.drop m := by
  unfold splice
  rw [List.take_left' (by simp), ← List.append_assoc, List.replicate_append_replicate]
  congr 1
  rw [List.drop_append]
  simp

set_option maxRecDepth 100000 in
set_option maxHeartbeats 1600000 in
theorem Repeat_c (w : World) (g0 : Nat) (hb0 : Blk w g0 5 [sev8]) :
    Calls Tryz.prog 31 #[.slice (some ⟨g0, 0, none⟩) 1 1, .int .i64 256] w fun e w' => ∃ g L, e = .returned (.slice (some ⟨g, 0, none⟩) 256 256) ∧ Hid (w.heap.size ≤ g ∧ Sevs w w' g L 256) := by
  obtain ⟨cs, hrun, hle, hmax⟩ := Lib.run_makeNoZero (P := Tryz.prog) w #[3] 22 5 Tryz.underlying22 256 (by omega)
  have hcall : (callFunc 59 #[.int .i64 256]).run Tryz.prog w = .ok (.value (.slice (some ⟨w.heap.size, 0, none⟩) 256 cs.size)) (w.drew.drew.alloc (.cells cs 5)) := by
    rw [run_callFunc_extern Tryz.func59 (by kernel_rfl) (by kernel_rfl) (by kernel_rfl) (e := Extern.BytealgMakeNoZero.makeNoZero #[3] #[22]) (by kernel_rfl)]
    have := hrun
    rw [show ((256 : Nat) : Int) = 256 from rfl] at this
    rw [this]
    rfl
  have Hle := Lib.hid hle
  have HB : Hid (Blk (w.alloc (.cells cs 5)) w.heap.size 5 cs.toList) := by
    have := Blk.new w 5 cs.toList
    rw [Array.toArray_toList] at this
    exact this
  have HC : Hid (∀ j v, [sev8][j]? = some v → (w.alloc (.cells cs 5)).cell? ((⟨g0, 0, none⟩ : Addr).add j) = some v) := by
    intro j v hv
    rw [Addr.add_mid, (hb0.alloc _).cell, Nat.zero_add]
    exact hv
  have Hfit : Hid (0 + [sev8].length ≤ cs.toList.length) := by show _ ≤ _; simp; omega
  have HBel : Hid (Below w.heap.size w (w.alloc (.cells cs 5))) := (Below.refl _ w).alloc (Nat.le_refl _) _
  have hle2 : (256 : Int) ≤ (cs.size : Int) := by omega
  clear hrun hmax
  go_enter Tryz.func31, Tryz.ntmps31
  go_wp2_with (first | (go_at_call 58; refine (Mul_c _).mono ?_; rintro e w' ⟨rfl, rfl⟩) | (refine wpList_copy_splice rfl (.tmp 58) (.tmp 59) 22 22 rfl 5 Tryz.underlying22 size8 (some ⟨w.heap.size, 0, none⟩) (some ⟨g0, 0, none⟩) 256 256 1 1 (by simp [Act.eval]) (by simp [Act.eval]) w.heap.size 0 cs.toList 5 HB.out.drew.drew [sev8] rfl (fun _ => ⟨rfl, _, rfl, HC.out⟩) Hfit.out (by simp [sev8, Value.oneCell']) w.heap.size w HBel.out.drew.drew (Nat.le_refl _) ?_; intro wz HBz hbz; have Hz := Lib.hid hbz; clear hbz))
  clear hcall hle2
  have Hle2 := Hle
  have H1 : Hid (Sevs w wz w.heap.size cs.size 1) := by
    have h1 := HBz.out
    have h2 := sevs_splice 0 1 cs.toList
    simp only [List.replicate_zero, List.nil_append, Nat.zero_add] at h2
    refine ⟨cs.toList.drop 1, ?_, by have := Hle.out; simp; omega, Hz.out⟩
    rw [← h2]
    exact h1
  clear HBz Hz
  go_loopw [10] (fun v wr => ∃ k : Nat, 1 ≤ k ∧ k ≤ 256 ∧ v = .int .i64 k ∧ Sevs w wr w.heap.size cs.size k) (fun v _ => 256 - (intOf v).toNat)
  case atStart => exact ⟨1, Nat.le_refl _, by omega, by simp, H1.out⟩
  case round =>
    obtain ⟨k, hk1, hk, rfl, hones⟩ := hrel
    have HO := Lib.hid hones
    clear hones H1
    by_cases hlt : k < 256
    · have i1 : (k : Int) < 256 := by omega
      have i2 : ¬ ((256 : Int) < (k : Int)) := by omega
      have i3 : (0 : Int) ≤ (k : Int) := by omega
      have i4 : (1 : Int) ≤ (k : Int) := by omega
      have i5 : ¬ (256 = k) := by omega
      have i6 : min (k : Int) 256 = k := by omega
      obtain ⟨rest, hb, hL, hbel⟩ := HO.out
      obtain ⟨m, hm⟩ : ∃ m, m = min k (256 - k) := ⟨_, rfl⟩
      have Hb : Hid (Blk wr w.heap.size 5 (List.replicate k sev8 ++ rest) ∧ k + rest.length = cs.size ∧ Below w.heap.size w wr ∧ 256 ≤ cs.size ∧ m = min k (256 - k)) := ⟨hb, hL, hbel, Hle2.out, hm⟩
      have Hlen : Hid ((List.replicate m sev8).length = Nat.min k (256 - k)) := by show _ = _; rw [List.length_replicate, hm]
      have Hsrc : Hid (∀ j v, (List.replicate m sev8)[j]? = some v → wr.drew.cell? ((⟨w.heap.size, 0, none⟩ : Addr).add j) = some v) := by
        intro j v hv
        have hj : j < m := by have := (List.getElem?_eq_some_iff.1 hv).1; simpa using this
        rw [Addr.add_mid, hb.drew.cell, Nat.zero_add, List.getElem?_append_left (by simp; omega)]
        rw [List.getElem?_replicate, if_pos (by omega)]
        rw [List.getElem?_replicate, if_pos hj] at hv
        exact hv
      have Hfit2 : Hid (k + (List.replicate m sev8).length ≤ (List.replicate k sev8 ++ rest).length) := by
        have := Hle2.out
        show _ ≤ _
        simp
        omega
      have Hone : Hid (∀ v ∈ List.replicate m sev8, v.oneCell' = true) := fun v hv => by rw [(List.mem_replicate.1 hv).2]; rfl
      clear hb hL hbel hm
      go_wp2
      go_region_law (refine step_copy_splice (w := wr.drew) rfl (.tmp 70) (.tmp 73) 22 22 rfl 5 Tryz.underlying22 size8 (some ⟨w.heap.size, k, none⟩) (some ⟨w.heap.size, 0, none⟩) (256 - k) (256 - k) k 256 (by simp [Act.eval, Act.put]) (by simp [Act.eval, Act.put]) w.heap.size k _ 5 Hb.out.1.drew (List.replicate m sev8) Hlen.out (fun _ => ⟨rfl, _, rfl, Hsrc.out⟩) Hfit2.out Hone.out w.heap.size w Hb.out.2.2.1.drew (Nat.le_refl _) ?_; intro wz HBz hbz)
      have HN : Hid (Sevs w wz w.heap.size cs.size (k + m)) := by
        have h := HBz.out
        rw [sevs_splice] at h
        obtain ⟨_, hL, _, h300, hmm⟩ := Hb.out
        exact ⟨rest.drop m, h, by simp; omega, hbz⟩
      have Hm1 : Hid (1 ≤ m ∧ k + m ≤ 256) := by
        have := Hb.out.2.2.2.2
        exact ⟨by omega, by omega⟩
      have hm0 : (m : Int) ≤ 256 := by have := Hm1.out; omega
      clear HBz hbz Hsrc Hlen Hfit2 Hone
      have hwk : IntKind.i64.wrap ((k : Int) + (m : Int)) = (k : Int) + (m : Int) := IntWalk.i64_in _ (by omega)
      go_simp
      go_wp2
      go_roundw
      case rel => exact ⟨k + m, by have := Hm1.out; omega, Hm1.out.2, by simp, HN.out⟩
      case measure => simp [intOf]; have := Hm1.out; omega
    · obtain rfl : k = 256 := by omega
      go_wp2
      go_ret
      exact ⟨_, _, rfl, Nat.le_refl _, HO.out⟩

end Go.Proofs.YtbpldkhgiddmlaaGreatDoor
