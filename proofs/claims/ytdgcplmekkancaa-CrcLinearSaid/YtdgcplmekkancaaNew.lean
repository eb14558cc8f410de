/-
  newTable.
-/
import Derived.Test.YtdgcplmekkancaaSums
import Derived.Deep.RegionHeld3
import Derived.Laws.CopyOwn
import Derived.Laws.MakeOwn
import Derived.Deep.RegionLaw
import Derived.Deep.LoopGhost
import Derived.Outline
import Derived.IntWalk
import Derived.Laws.BitsAllLaws
set_option linter.unusedVariables false
namespace Go.Proofs.Ytdgcplmekkancaa
open Go.RowKit

def tcells (k : Nat) : List Value := (List.range 16).map fun i => .int .u32 ((if i < k then tab i else 0 : Nat) : Int)
theorem tcells_set (k : Nat) (h : k < 16) : (tcells k).set k (.int .u32 (tab k : Nat)) = tcells (k + 1) := by
  apply List.ext_getElem?
  intro i
  unfold tcells
  rw [List.getElem?_set]
  simp only [List.getElem?_map, List.length_map, List.length_range]
  by_cases hi : k = i
  · subst hi
    simp [h]
  · rw [if_neg hi]
    by_cases h16 : i < 16
    · simp only [List.getElem?_range h16, Option.map_some]
      congr 3
      by_cases h1 : i < k
      · rw [if_pos h1, if_pos (by omega)]
      · rw [if_neg h1, if_neg (by omega)]
    · rw [List.getElem?_eq_none (by simpa using h16)]
      rfl

theorem bstep_val (c : Nat) (h : c < 4294967296) : bits .xor .u32 ((c : Int) / 2) (2197175160 * bits .and .u32 (c : Int) 1 % 4294967296) = ((bstep c : Nat) : Int) := by
  have h1 : bits .and .u32 (c : Int) 1 = ((c % 2 : Nat) : Int) := by
    have := u32_and_nat c 1 h (by omega)
    rw [nat_mask1] at this
    exact this
  have h2 : (2197175160 * ((c % 2 : Nat) : Int) % 4294967296) = ((c % 2 * 2197175160 : Nat) : Int) := by omega
  have h3 : (c : Int) / 2 = ((c / 2 : Nat) : Int) := by omega
  rw [h1, h2, h3, u32_xor_nat _ _ (by omega) (by omega)]
  rfl
theorem bsteps_val (j k : Nat) (hk : k < 16) : bits .xor .u32 (((bsteps j k : Nat) : Int) / 2) (2197175160 * bits .and .u32 ((bsteps j k : Nat) : Int) 1 % 4294967296) = ((bsteps (j + 1) k : Nat) : Int) := by
  rw [bstep_val _ (bsteps_lt (by omega)), bsteps_succ]

theorem results_cell {fn : Func} {P : Program} {p : Tmp} {ty : TypeId} {tmps : Array Value} {w : World} {a : Addr} {v : Value} (h : fn.results = #[.cell p ty]) (ha : tmps.getD p undef = .pointer (some a)) (hl : (loadVar ty a).run P w = .ok v w) :
    (results fn tmps).run P w = .ok v w := by
  rw [Array.getD_eq_getD_getElem?] at ha
  simp only [results, h]
  simp [Sem.run_bind, ha, asAddr, hl]
def tv (i : Nat) : Value := .int .u32 (tab i : Nat)
def TabIn (w0 wr : World) (k : Nat) : Prop :=
  Blk wr w0.heap.size 38 (tcells 0) ∧ Blk wr (w0.heap.size + 1) 38 (tcells k) ∧ Only (w0.heap.size ≤ ·) w0 wr

set_option maxRecDepth 100000 in
set_option maxHeartbeats 1600000 in
theorem newTable_c (w : World) :
    Calls Try.prog 18 #[] w fun e w' => e = .returned (.agg (tcells 16).toArray) ∧ Only (w.heap.size ≤ ·) w w' := by
  go_enter Try.func18, Try.ntmps18
  go_wp2
  go_loopw [5] (fun n wr => ∃ k : Nat, k ≤ 16 ∧ n = .int .u32 k ∧ TabIn w wr k) (fun n _ => 16 - (intOf n).toNat)
  case atStart => 
    refine ⟨0, by omega, rfl, ?_, ?_, ?_⟩
    · exact (Blk.new w 38 (tcells 0)).alloc _
    · have := Blk.new (w.alloc (.cells (tcells 0).toArray 38)) 38 (tcells 0)
      rw [show (w.alloc (.cells (tcells 0).toArray 38)).heap.size = w.heap.size + 1 by simp] at this
      exact this
    · exact ((Only.refl _ w).alloc (fun _ h => h) _).alloc (fun _ h => h) _
  case round =>
    obtain ⟨k, hk, rfl, ht⟩ := hrel
    have HT := Lib.hid ht
    clear ht
    by_cases hlt : k < 16
    · have i1 : (k : Int) < 16 := by omega
      go_wp2
      go_loopw [9, 3] (fun i c wr' => ∃ j : Nat, j ≤ 4 ∧ i = .int .i64 j ∧ c = .int .u32 (bsteps j k : Nat) ∧ wr' = wr) (fun i _ _ => 4 - (intOf i).toNat)
      case atStart => exact ⟨0, by omega, rfl, rfl, rfl⟩
      case round =>
        obtain ⟨j, hj, rfl, rfl, rfl⟩ := hrel
        by_cases hj4 : j < 4
        · have j1 : (j : Int) < 4 := by omega
          go_wp2
          refine ⟨⟨j + 1, by omega, by go_num, by rw [bsteps_val j k hlt], trivial⟩, ?_⟩
          simp [intOf]
          omega
        · obtain rfl : j = 4 := by omega
          have c1 : wr.cell? ⟨w.heap.size + 1, k, none⟩ = some (.int .u32 0) := by
            rw [HT.out.2.1.cell]
            simp [tcells, hlt]
          have c2 : wr.frozen? ⟨w.heap.size + 1, k, none⟩ = false := HT.out.2.1.frozen k
          go_wp2
          have H1 : Hid (TabIn w (wr.setCell ⟨w.heap.size + 1, k, none⟩ (.int .u32 (bsteps 4 k : Nat))) (k + 1)) := by
            refine ⟨HT.out.1.far (by simp) _, ?_, HT.out.2.2.setCell (by show _ ≤ _; simp) _⟩
            have := HT.out.2.1.set_ k (.int .u32 (tab k : Nat))
            rw [tcells_set k hlt] at this
            exact this
          refine ⟨⟨k + 1, by omega, by go_num, H1.out⟩, ?_⟩
          simp [intOf]
          omega
    · obtain rfl : k = 16 := by omega
      have HR : Hid (wr.rangeAt (w.heap.size + 1) 0 (tcells 16)) := HT.out.2.1.range 0 16
      have HTh : Hid (wr.there w.heap.size 0 16) := HT.out.1.there 0 16 (Nat.le_refl _)
      go_wp2_with (first | (refine wpList_load_mid rfl 38 (.tmp 1) rfl (w.heap.size + 1) 0 (by simp [Act.eval]) (tcells 16) _ HR.out Try.underlying38 rfl (by kernel_rfl) ?_) | (refine wpList_store_mid rfl 38 (.tmp 0) (.tmp 23) rfl w.heap.size 0 (tcells 16).toArray (by simp [Act.eval, Act.put]) (by simp [Act.eval, Act.put]) HTh.out (by kernel_rfl) (by kernel_rfl) ?_))
      have HB : Hid (Blk (wr.setCells w.heap.size 0 (tcells 16)) w.heap.size 38 (tcells 16)) := by
        have := HT.out.1.setN (tcells 16) 0 (Nat.le_refl _)
        exact this
      have HO : Hid (Only (w.heap.size ≤ ·) w (wr.setCells w.heap.size 0 (tcells 16))) := HT.out.2.2.setCells _ _ _ (Nat.le_refl _)
      have hl := run_loadVar_mid (P := Try.prog) (wr.setCells w.heap.size 0 (tcells 16)) w.heap.size 0 38 (tcells 16) _ (HB.out.range 0 16) Try.underlying38 rfl (by kernel_rfl)
      exact bodyPost_ret (v := .agg (tcells 16).toArray) (results_cell rfl rfl hl) rfl ⟨rfl, HO.out⟩
end Go.Proofs.Ytdgcplmekkancaa
