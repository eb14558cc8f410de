/-
  Sectors into bytes; the small methods of a disk.
-/
import Derived.Test.YtdgcplmekkancaaDoorSect
set_option linter.unusedVariables false
namespace Go.Proofs.YtdgcplmekkancaaDoor
open Go.RowKit

theorem info5 : (Tryd.prog.info? 5).map (fun i => (i.zero, i.size, i.bytes)) = some (some z8, 1, 1) := by kernel_rfl
theorem made5 (k : Nat) : madeCells (z8).cells k = (List.replicate k z8).toArray := by
  unfold madeCells
  apply Array.ext
  · simp
  · intro i h1 h2
    simp [Value.cells, z8, Nat.mod_one]

/-- Behind k rounds. -/
def FilledB (w0 wr : World) (g n : Nat) (xs : List Value) (k : Nat) : Prop :=
  Blk wr g 5 (xs.take (k * 64) ++ List.replicate (n * 64 - min (k * 64) xs.length) z8) ∧ Only (w0.heap.size ≤ ·) w0 wr

set_option maxRecDepth 100000 in
set_option maxHeartbeats 800000 in
theorem bytesOf_c (w : World) (A : Option Addr) (n c : Nat) (xs : List Value) (hl : xs.length = n * 64) (hs : 0 < n → ∃ ad, A = some ad ∧ ad.block < w.heap.size ∧ ∀ j u, xs[j]? = some u → w.cell? (ad.add j) = some u) (hn : n ≤ 4294967296) (h1 : ∀ v ∈ xs, v.oneCell' = true) :
    Calls Tryd.prog 24 #[.slice A n c] w fun e w' => e = .returned (.slice (some ⟨w.heap.size, 0, none⟩) (n * 64) (n * 64)) ∧
      Blk w' w.heap.size 5 xs ∧ Only (w.heap.size ≤ ·) w w' := by
  obtain ⟨i0, hi0, hz0, hz1, hz2⟩ := info_parts info5
  have hmk : ∀ W : World, (Instr.makeSlice 22 (.int .i64 ((n : Int) * 64)) (.int .i64 ((n : Int) * 64))).run Tryd.prog W = .ok (.slice (some ⟨W.heap.size, 0, none⟩) (n * 64) (n * 64)) (W.alloc (.cells (List.replicate (n * 64) z8).toArray 5)) := by
    intro W
    have hr := run_make (P := Tryd.prog) W 22 5 i0 _ Tryd.underlying22 hi0 hz0 .i64 .i64 ((n * 64 : Nat) : Int) ((n * 64 : Nat) : Int) (by omega) (by omega) (by rw [hz2]; omega) (by omega)
    simp only [Int.toNat_natCast] at hr
    rw [made5, hz1, Nat.mul_one] at hr
    exact_mod_cast hr
  clear hi0 hz0 hz1 hz2
  go_enter Tryd.func24, Tryd.ntmps24
  go_wp2
  clear hmk
  go_loopw [11] (fun i wr => ∃ k : Nat, k ≤ n ∧ i = .int .i64 k ∧ FilledB w wr w.heap.size n xs k) (fun i _ => n - (intOf i).toNat)
  case atStart => exact ⟨0, Nat.zero_le _, rfl, by simpa using Blk.new w 5 (List.replicate (n * 64) z8), (Only.refl _ w).alloc (fun _ h => h) _⟩
  case round =>
    obtain ⟨k, hk, rfl, hfill⟩ := hrel
    by_cases hlt : k < n
    · obtain ⟨ad, rfl, had, hcell⟩ := hs (by omega)
      have HB : Hid (Blk wr w.heap.size 5 (xs.take (k * 64) ++ List.replicate (n * 64 - k * 64) z8)) := by
        have := hfill.1
        rw [show min (k * 64) xs.length = k * 64 by omega] at this
        exact Lib.hid this
      have HO := Lib.hid hfill.2
      clear hfill
      have HL := Lib.hid hl
      clear hl hs
      have hk0 : (0 : Int) ≤ (k : Int) := Int.natCast_nonneg _
      have hk1 : (k : Int) < (n : Int) := by omega
      have hb1 : (k : Int) * 64 ≤ (n : Int) * 64 := by omega
      have hb0 : (0 : Int) ≤ (k : Int) * 64 := by omega
      have hw1 : IntKind.i64.wrap ((k : Int) * 64) = (k : Int) * 64 := IntWalk.i64_in _ (by omega)
      have hw2 : ((k : Int) * 64).toNat = k * 64 := by omega
      have hck : ¬ (n * 64 = k * 64) := by omega
      go_wp2
      have hlen : ((xs.drop (k * 64)).take 64).length = Nat.min 64 (n * 64 - k * 64) := by
        rw [List.length_take, List.length_drop, HL.out]
      have Hlen := Lib.hid hlen
      clear hlen
      have Hpos : Hid (0 < ((xs.drop (k * 64)).take 64).length → (some ⟨w.heap.size, k * 64, none⟩ : Option Addr) = some ⟨w.heap.size, k * 64, none⟩ ∧ ∃ a, some (ad.add (k * 64)) = some a ∧ ∀ j v, ((xs.drop (k * 64)).take 64)[j]? = some v → wr.drew.cell? (a.add j) = some v) := by
        refine fun _ => ⟨rfl, _, rfl, fun j v hv => ?_⟩
        rw [List.getElem?_take] at hv
        split at hv
        · rw [List.getElem?_drop] at hv
          have e1 : (ad.add (k * 64)).add j = ad.add (k * 64 + j) := by
            unfold Addr.add
            by_cases hi : k * 64 = 0 <;> by_cases hj : j = 0 <;> simp [hi, hj, Nat.add_assoc]
          rw [e1]
          exact (HO.out.cell (p := ad.add (k * 64 + j)) (by rw [show (ad.add (k * 64 + j)).block = ad.block by unfold Addr.add; split <;> rfl]; omega)).trans (hcell _ v hv)
        · cases hv
      have Hfit : Hid (k * 64 + ((xs.drop (k * 64)).take 64).length ≤ (xs.take (k * 64) ++ List.replicate (n * 64 - k * 64) z8).length) := by
        have := HL.out
        show _ ≤ _
        simp
        omega
      have H1 : Hid (∀ v ∈ (xs.drop (k * 64)).take 64, v.oneCell' = true) := fun v hv => h1 v (List.mem_of_mem_drop (List.mem_of_mem_take hv))
      go_region_law (refine step_copy_splice (w := wr.drew) rfl (.tmp 17) (.tmp 21) 22 22 rfl 5 Tryd.underlying22 size5 (some ⟨w.heap.size, k * 64, none⟩) (some (ad.add (k * 64))) (n * 64 - k * 64) (n * 64 - k * 64) 64 64 (by simp [Act.eval, Act.put]) (by simp [Act.eval, Act.put]) w.heap.size (k * 64) _ 5 HB.out.drew ((xs.drop (k * 64)).take 64) Hlen.out Hpos.out Hfit.out H1.out w.heap.size w (HO.out.drew.toBelow fun _ h => h) (Nat.le_refl _) ?_; intro wz HBz hbz)
      have HF : Hid (FilledB w wz w.heap.size n xs (k + 1)) := by
        refine ⟨?_, Only.below hbz⟩
        have h := HBz.out
        have hl := HL.out
        rw [splice_fill xs (k * 64) (n * 64) z8 (by omega) (by omega), show k * 64 + 64 = (k + 1) * 64 by omega] at h
        exact h
      clear HBz hbz Hpos Hfit H1 Hlen HB HO hw1 hw2
      go_wp2
      go_roundw
      case rel => exact ⟨k + 1, by omega, by go_num, HF.out⟩
      case measure => simp [intOf]; omega
    · have hkm : ¬ (k : Int) < (n : Int) := by omega
      have HF := Lib.hid hfill
      have HL := Lib.hid hl
      clear hfill hl
      go_wp2
      go_ret
      obtain rfl : k = n := by omega
      have hl := HL.out
      obtain ⟨hb, ho⟩ := HF.out
      rw [List.take_of_length_le (by omega), Nat.min_eq_right (by omega), hl] at hb
      exact ⟨rfl, by simpa using hb, ho⟩

end Go.Proofs.YtdgcplmekkancaaDoor
