/-
  Bytes into sectors, sectors into bytes.
-/
import Derived.Test.YtdgcplmekkancaaDoorMem
import Derived.Deep.RegionHeld3
import Derived.Laws.CopyOwn
import Derived.Laws.MakeOwn
import Derived.Deep.RegionLaw
import Derived.Deep.LoopGhost
import Derived.Outline
import Derived.IntWalk
set_option linter.unusedVariables false
namespace Go.Proofs.YtdgcplmekkancaaDoor
open Go.RowKit

/-- A slice value that holds the cells xs, in a block of which F does not speak. -/
def Src (w : World) (F : Nat → Prop) (A : Option Addr) (n : Nat) (xs : List Value) : Prop :=
  xs.length = n ∧ (0 < n → ∃ ad, A = some ad ∧ ¬ F ad.block ∧ ∀ j u, xs[j]? = some u → w.cell? (ad.add j) = some u)

def z8 : Value := .int .u8 0
theorem info53 : (Tryd.prog.info? 47).map (fun i => (i.zero, i.size, i.bytes)) = some (some (.agg (Array.replicate 64 z8)), 64, 64) := by kernel_rfl
theorem made53 (k : Nat) : madeCells (Value.agg (Array.replicate 64 z8)).cells k = (List.replicate k z8).toArray := by
  unfold madeCells
  apply Array.ext
  · simp
  · intro i h1 h2
    have : i % 64 < 64 := Nat.mod_lt _ (by omega)
    simp [Value.cells, this]

theorem size5 : (Tryd.prog.info? 5).map (·.size) = some 1 := by kernel_rfl
theorem splice_fill (xs : List Value) (a L : Nat) (z : Value) (ha : a ≤ xs.length) (hL : xs.length ≤ L) :
    splice (xs.take a ++ List.replicate (L - a) z) a ((xs.drop a).take 64) = xs.take (a + 64) ++ List.replicate (L - min (a + 64) xs.length) z := by
  have h1 : (xs.take a).length = a := by simp [ha]
  have h2 : ((xs.drop a).take 64).length = min 64 (xs.length - a) := by simp
  have e1 : (xs.take a ++ List.replicate (L - a) z).take a = xs.take a := by
    rw [List.take_append_of_le_length (by omega)]
    exact List.take_of_length_le (by omega)
  have e2 : (xs.take a ++ List.replicate (L - a) z).drop (a + ((xs.drop a).take 64).length) = List.replicate (L - min (a + 64) xs.length) z := by
    rw [List.drop_append, List.drop_of_length_le (by omega), h1, List.nil_append, List.drop_replicate]
    congr 1
    omega
  unfold splice
  rw [e1, e2, ← List.append_assoc, ← List.take_add]

/-- Behind k rounds. -/
def Filled (w0 wr : World) (g m : Nat) (xs : List Value) (k : Nat) : Prop :=
  Blk wr g 47 (xs.take (k * 64) ++ List.replicate (m * 64 - min (k * 64) xs.length) z8) ∧ Only (w0.heap.size ≤ ·) w0 wr

set_option maxRecDepth 100000 in
set_option maxHeartbeats 800000 in
theorem sectorsOf_c (w : World) (A : Option Addr) (n c : Nat) (xs : List Value) (hs : Src w (w.heap.size ≤ ·) A n xs) (hc : n ≤ c) (hn : n ≤ 4294967296) (hm : c ≤ maxLen) (m : Nat) (hmm : m = (n + 63) / 64) (h1 : ∀ v ∈ xs, v.oneCell' = true) :
    Calls Tryd.prog 22 #[.slice A n c] w fun e w' => e = .returned (.slice (some ⟨w.heap.size, 0, none⟩) m m) ∧
      Blk w' w.heap.size 47 (xs ++ List.replicate (m * 64 - n) z8) ∧ Only (w.heap.size ≤ ·) w w' := by
  obtain ⟨i0, hi0, hz0, hz1, hz2⟩ := info_parts info53
  have hmk : ∀ W : World, (Instr.makeSlice 43 (.int .i64 (m : Int)) (.int .i64 (m : Int))).run Tryd.prog W = .ok (.slice (some ⟨W.heap.size, 0, none⟩) m m) (W.alloc (.cells (List.replicate (m * 64) z8).toArray 47)) := by
    intro W
    have hr := run_make (P := Tryd.prog) W 43 47 i0 _ Tryd.underlying43 hi0 hz0 .i64 .i64 m m (by omega) (by omega) (by rw [hz2]; omega) (by omega)
    simp only [Int.toNat_natCast] at hr
    rw [made53, hz1] at hr
    exact hr
  have hdiv : ((n : Int) + 64 - 1) / 64 = (m : Int) := by omega
  have hm1 : n ≤ m * 64 := by omega
  have hm2 : m * 64 < n + 64 := by omega
  clear hmm
  clear hi0 hz0 hz1 hz2
  unfold maxLen at hm
  go_enter Tryd.func22, Tryd.ntmps22
  go_wp2
  clear hdiv hmk
  go_loopw [13] (fun i wr => ∃ k : Nat, k ≤ m ∧ i = .int .i64 k ∧ Filled w wr w.heap.size m xs k) (fun i _ => m - (intOf i).toNat)
  case atStart => exact ⟨0, Nat.zero_le _, rfl, by simpa using Blk.new w 47 (List.replicate (m * 64) z8), (Only.refl _ w).alloc (fun _ h => h) _⟩
  case round =>
    obtain ⟨k, hk, rfl, hfill⟩ := hrel
    by_cases hlt : k < m
    · obtain ⟨ad, rfl, had, hcell⟩ := hs.2 (by omega)
      have hl := hs.1
      have HB : Hid (Blk wr w.heap.size 47 (xs.take (k * 64) ++ List.replicate (m * 64 - k * 64) z8)) := by
        have := hfill.1
        rw [show min (k * 64) xs.length = k * 64 by omega] at this
        exact Lib.hid this
      have HO := Lib.hid hfill.2
      clear hfill
      have HL := Lib.hid hl
      clear hl hs
      have hk0 : (0 : Int) ≤ (k : Int) := Int.natCast_nonneg _
      have hk1 : (k : Int) < (m : Int) := by omega
      have hb1 : (k : Int) * 64 ≤ (n : Int) := by omega
      have hcn : (xs.drop (k * 64)).take 64 ≠ [] := by
        have := HL.out
        intro e
        have := congrArg List.length e
        simp at this
        omega
      have hb0 : (0 : Int) ≤ (k : Int) * 64 := by omega
      have hw1 : IntKind.i64.wrap ((k : Int) * 64) = (k : Int) * 64 := IntWalk.i64_in _ (by omega)
      have hw2 : ((k : Int) * 64).toNat = k * 64 := by omega
      have hck : ¬ (c = k * 64) := by omega
      go_wp2
      have hlen : ((xs.drop (k * 64)).take 64).length = Nat.min (n - k * 64) 64 := by
        rw [List.length_take, List.length_drop, HL.out, Nat.min_comm]
      have Hlen := Lib.hid hlen
      clear hlen
      have Hpos : Hid (0 < ((xs.drop (k * 64)).take 64).length → (some ⟨w.heap.size, k * 64, none⟩ : Option Addr) = some ⟨w.heap.size, k * 64, none⟩ ∧ ∃ a, some (ad.add (k * 64)) = some a ∧ ∀ j v, ((xs.drop (k * 64)).take 64)[j]? = some v → wr.drew.cell? (a.add j) = some v) := by
        refine fun _ => ⟨rfl, _, rfl, fun j v hv => ?_⟩
        rw [List.getElem?_take] at hv
        split at hv
        · rw [List.getElem?_drop] at hv
          have e1 : (ad.add (k * 64)).add j = ad.add (k * 64 + j) := by
            unfold Addr.add
            by_cases hi : k * 64 = 0 <;> by_cases hj : j = 0 <;> simp [hi, hj, Nat.add_assoc]
          rw [e1]
          exact (HO.out.cell (p := ad.add (k * 64 + j)) (by rw [show (ad.add (k * 64 + j)).block = ad.block by unfold Addr.add; split <;> rfl]; exact had)).trans (hcell _ v hv)
        · cases hv
      have Hfit : Hid (k * 64 + ((xs.drop (k * 64)).take 64).length ≤ (xs.take (k * 64) ++ List.replicate (m * 64 - k * 64) z8).length) := by
        have := HL.out
        show _ ≤ _
        simp
        omega
      have H1 : Hid (∀ v ∈ (xs.drop (k * 64)).take 64, v.oneCell' = true) := fun v hv => h1 v (List.mem_of_mem_drop (List.mem_of_mem_take hv))
      go_region_law (refine step_copy_splice (w := wr.drew) rfl (.tmp 19) (.tmp 23) 22 22 rfl 5 Tryd.underlying22 size5 (some ⟨w.heap.size, k * 64, none⟩) (some (ad.add (k * 64))) 64 64 (n - k * 64) (c - k * 64) (by simp [Act.eval, Act.put]) (by simp [Act.eval, Act.put]) w.heap.size (k * 64) _ 47 HB.out.drew ((xs.drop (k * 64)).take 64) Hlen.out Hpos.out Hfit.out H1.out w.heap.size w (HO.out.drew.toBelow fun _ h => h) (Nat.le_refl _) ?_; intro wz HBz hbz)
      have HF : Hid (Filled w wz w.heap.size m xs (k + 1)) := by
        refine ⟨?_, Only.below hbz⟩
        have h := HBz.out
        have hl := HL.out
        rw [splice_fill xs (k * 64) (m * 64) z8 (by omega) (by omega), show k * 64 + 64 = (k + 1) * 64 by omega] at h
        exact h
      clear HBz hbz Hpos Hfit H1 Hlen HB HO hw1 hw2 hcn
      go_wp2
      go_roundw
      case rel => exact ⟨k + 1, by omega, by go_num, HF.out⟩
      case measure => simp [intOf]; omega
    · have hkm : ¬ (k : Int) < (m : Int) := by omega
      have HF := Lib.hid hfill
      clear hfill
      go_wp2
      go_ret
      obtain rfl : k = m := by omega
      have hl := hs.1
      obtain ⟨hb, ho⟩ := HF.out
      rw [List.take_of_length_le (by omega), Nat.min_eq_right (by omega), hl] at hb
      exact ⟨rfl, hb, ho⟩

end Go.Proofs.YtdgcplmekkancaaDoor
