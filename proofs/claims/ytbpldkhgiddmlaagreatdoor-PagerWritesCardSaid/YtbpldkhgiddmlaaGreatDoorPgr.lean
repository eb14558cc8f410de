/-
  Rows of bools; whole.
-/
import Derived.Test.YtbpldkhgiddmlaaGreatDoorPge
set_option linter.unusedVariables false
namespace Go.Proofs.YtbpldkhgiddmlaaGreatDoor
open Go.RowKit

def cbo (l : List Bool) : List Value := l.map Value.bool
theorem cbo_at {l : List Bool} {k : Nat} {x : Bool} (h : l[k]? = some x) : (cbo l)[k]? = some (.bool x) := by unfold cbo; rw [List.getElem?_map, h]; rfl
def Bls (w : World) (v : Value) (l : List Bool) : Prop := ∃ b o c, v = .slice (some ⟨b, o, none⟩) l.length c ∧ ∀ k x, l[k]? = some x → w.cell? ⟨b, o + k, none⟩ = some (.bool x)
theorem Bls.later {w w' : World} {v : Value} {l : List Bool} (h : Bls w v l) (ho : Only (w.heap.size ≤ ·) w w') : Bls w' v l := by
  obtain ⟨b, o, c, e, hc⟩ := h
  refine ⟨b, o, c, e, fun k x hx => ?_⟩
  have h1 := hc k x hx
  have h2 := World.block_lt_of_cell? w _ h1
  exact (ho.cell (p := ⟨b, o + k, none⟩) (Nat.not_le.2 h2)).trans h1
def zBo : Value := .bool false
theorem info_Bo : (Tryz.prog.info? 4).map (fun i => (i.zero, i.size, i.bytes)) = some (some zBo, 1, 1) := by kernel_rfl
theorem made_Bo (k : Nat) : madeCells (zBo).cells k = (List.replicate k zBo).toArray := by
  unfold madeCells
  apply Array.ext
  · simp [zBo, Value.cells]
  · intro i h1 h2
    simp [zBo, Value.cells, Nat.mod_one]
theorem run_makeB (n : Nat) (hn : n ≤ 65536) (W : World) : (Instr.makeSlice 42 (.int .i64 (n : Int)) (.int .i64 (n : Int))).run Tryz.prog W = .ok (.slice (some ⟨W.heap.size, 0, none⟩) n n) (W.alloc (.cells (List.replicate n zBo).toArray 4)) := by
  obtain ⟨i0, hi0, hz0, hz1, hz2⟩ := info_parts info_Bo
  have hr := run_make (P := Tryz.prog) W 42 4 i0 _ Tryz.underlying42 hi0 hz0 .i64 .i64 (n : Int) (n : Int) (by omega) (by omega) (by rw [hz2]; omega) (by omega)
  simp only [Int.toNat_natCast] at hr
  rw [made_Bo, hz1, Nat.mul_one] at hr
  exact hr
set_option maxRecDepth 100000 in
set_option maxHeartbeats 1600000 in
theorem PIndexB_c (w : World) (v : Value) (l : List Bool) (h : Bls w v l) (hn : l.length ≤ 1000000) :
    Calls Tryz.prog 73 #[v, .bool true] w fun e w' => ∃ r : Int, e = .returned (.int .i64 r) ∧ (0 ≤ r ↔ true ∈ l) ∧ Only (w.heap.size ≤ ·) w w' := by
  obtain ⟨b, o, c, rfl, hr⟩ := h
  obtain ⟨n, hne⟩ : ∃ n, n = l.length := ⟨_, rfl⟩
  have HS : Hid (∀ k x, l[k]? = some x → w.cell? ⟨b, o + k, none⟩ = some (.bool x)) := Lib.hid hr
  rw [← hne] at hn ⊢
  have HL := Lib.hid hne
  clear hr hne
  go_enter Tryz.func73, Tryz.ntmps73
  go_wp2
  go_loopg [8] n (fun gk i wr => ∃ (k : Nat), gk = n - k ∧ k ≤ n ∧ i = .int .i64 k ∧ Hid (∀ j, j < k → l[j]? ≠ some true) ∧ Hid (Only (w.heap.size ≤ ·) w wr))
  case atStart => exact ⟨0, rfl, Nat.zero_le _, rfl, Lib.hid (fun j hj => absurd hj (Nat.not_lt_zero _)), Lib.hid (Only.refl _ _)⟩
  case round =>
    obtain ⟨k, rfl, hk, rfl, HK, HO⟩ := hrel
    by_cases hlt : k < n
    · obtain ⟨y, hy⟩ : ∃ y, l[k]? = some y := ⟨_, List.getElem?_eq_getElem (by rw [← HL.out]; exact hlt)⟩
      have hw := HS.out k y hy
      have hcell := (HO.out.cell (p := ⟨b, o + k, none⟩) (Nat.not_le.2 (World.block_lt_of_cell? w _ hw))).trans hw
      have HY := Lib.hid hy
      have hk0 : (0 : Int) ≤ (k : Int) := by omega
      have hkn : (k : Int) < (n : Int) := by omega
      clear hy hw
      cases y with
      | true =>
        go_wp2
        go_ret
        exact ⟨_, rfl, ⟨fun _ => List.mem_of_getElem? HY.out, fun _ => by omega⟩, HO.out⟩
      | false =>
        go_wp2
        go_roundg (n - (k + 1))
        case rel =>
          refine ⟨k + 1, rfl, by omega, by go_num, Lib.hid (fun j hj => ?_), HO⟩
          rcases Nat.lt_or_ge j k with hjk | hjk
          · exact HK.out j hjk
          · obtain rfl : j = k := by omega
            rw [HY.out]
            exact fun e => by cases e
        case measure => omega
    · obtain rfl : k = n := by omega
      have hkm : ¬ (k : Int) < (k : Int) := by omega
      go_wp2
      go_ret
      refine ⟨_, rfl, ⟨fun h => by omega, fun hx => ?_⟩, HO.out⟩
      obtain ⟨j, hj⟩ := List.mem_iff_getElem?.1 hx
      have hjl := (List.getElem?_eq_some_iff.1 hj).1
      exact absurd hj (HK.out j (by have := HL.out; omega))
theorem PContB_c (w : World) (v : Value) (l : List Bool) (h : Bls w v l) (hn : l.length ≤ 1000000) :
    Calls Tryz.prog 51 #[v, .bool true] w (Told w (.bool (decide (true ∈ l)))) := by
  have HI := Lib.hid (PIndexB_c w v l h hn)
  obtain ⟨b, o, c, rfl, _⟩ := h
  clear hn
  go_enter Tryz.func51, Tryz.ntmps51
  go_wp2_with (go_at_call 73; refine HI.out.mono ?_; rintro e w1 ⟨r, rfl, hr, ho⟩; have HR := Lib.hid hr; have HO := Lib.hid ho; clear hr ho)
  go_ret
  exact ⟨congrArg (fun b => Ending.returned (Value.bool b)) (decide_eq_decide.2 HR.out), HO.out⟩

/-- A write of whole pages that may be written, of so many pages. -/
def fitW (N : Nat) (x : Wt) : Bool := decide (1 ≤ (x.2.length : Int) / 256) && (decide ((x.2.length : Int) % 256 = 0) && (decide (2 ≤ x.1) && decide ((x.2.length : Int) / 256 ≤ (N : Int) - x.1)))
set_option maxRecDepth 100000 in
set_option maxHeartbeats 3200000 in
theorem Pgwhole_c (w : World) (N : Nat) (x : Wt) (A : Option Addr) (c : Nat) (hN : N ≤ 16384) (hx : x.1 ≤ 9223372036854775807) (hl : x.2.length ≤ 9223372036854775807) :
    Calls Tryz.prog 50 #[.agg #[.int .i64 x.1, .slice A x.2.length c], .int .i64 (N : Int)] w (Told w (.bool (fitW N x))) := by
  obtain ⟨id, xs⟩ := x
  unfold fitW
  dsimp only at hx hl ⊢
  obtain ⟨n, hn⟩ : ∃ n, n = xs.length := ⟨_, rfl⟩
  rw [← hn] at hl ⊢
  clear hn
  have hwn : IntKind.i64.wrap ((n : Int) / 256) = (n : Int) / 256 := IntWalk.i64_in _ (by omega)
  have HO : Hid (Only (w.heap.size ≤ ·) w (w.alloc (.cells #[.int .i64 id, .slice A n c] 71))) := Lib.hid ((Only.refl _ w).alloc (fun _ h => h) _)
  by_cases h1 : 1 ≤ (n : Int) / 256
  · rw [decide_eq_true h1, Bool.true_and]
    by_cases h2 : (n : Int) % 256 = 0
    · rw [decide_eq_true h2, Bool.true_and]
      by_cases h3 : 2 ≤ id
      · rw [decide_eq_true h3, Bool.true_and]
        have hw : IntKind.i64.wrap ((N : Int) - id) = (N : Int) - id := IntWalk.i64_in _ (by omega)
        by_cases h4 : (n : Int) / 256 ≤ (N : Int) - id
        · rw [decide_eq_true h4]
          go_enter Tryz.func50, Tryz.ntmps50
          go_wp2
          go_ret
          exact ⟨rfl, HO.out⟩
        · rw [decide_eq_false h4]
          go_enter Tryz.func50, Tryz.ntmps50
          go_wp2
          go_ret
          exact ⟨rfl, HO.out⟩
      · rw [decide_eq_false h3, Bool.false_and]
        go_enter Tryz.func50, Tryz.ntmps50
        go_wp2
        go_ret
        exact ⟨rfl, HO.out⟩
    · rw [decide_eq_false h2, Bool.false_and]
      go_enter Tryz.func50, Tryz.ntmps50
      go_wp2
      go_ret
      exact ⟨rfl, HO.out⟩
  · rw [decide_eq_false h1, Bool.false_and]
    go_enter Tryz.func50, Tryz.ntmps50
    go_wp2
    go_ret
    exact ⟨rfl, HO.out⟩
end Go.Proofs.YtbpldkhgiddmlaaGreatDoor
