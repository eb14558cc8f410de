/-
  old and of of the law; Same of the document.
-/
import Derived.Test.YtmadlckladohbaaGreatSame
import Derived.Laws.StructEq
set_option linter.unusedVariables false
namespace Go.Proofs.YtmadlckladohbaaGreat
open Go.RowKit

def z2 : Value := .agg #[.int .i64 0, .int .i64 0]
theorem infoRef : (Tryz.prog.info? 44).map (fun i => (i.zero, i.size, i.bytes)) = some (some z2, 2, 16) := by kernel_rfl
theorem infoRun : (Tryz.prog.info? 54).map (fun i => (i.zero, i.size, i.bytes)) = some (some z2, 2, 16) := by kernel_rfl

/-- A row of the call's own comes back. -/
def Makes (w : World) (t : TypeId) (l : List R) (e : Ending) (w' : World) : Prop := ∃ v, e = .returned v ∧ Own w' w.heap.size t v l ∧ Only (w.heap.size ≤ ·) w w'

theorem Own.alloc {w : World} {B : Nat} {t : TypeId} {v : Value} {l : List R} (h : Own w B t v l) (o : Obj) : Own (w.alloc o) B t v l := World.ownsRow.alloc h o
theorem rc_snoc (l : List R) (k : Nat) (x : R) (h : l[k]? = some x) : rc (l.take (k + 1)) = rc (l.take k) ++ rc [x] := by
  rw [List.take_add_one, h, rc_append]
  rfl

set_option maxRecDepth 100000 in
set_option maxHeartbeats 3200000 in
theorem old_c (w : World) (A : Option Addr) (n c : Nat) (l : List R) (h : Rs w A l) (hl : l.length = n) (hn : n ≤ 1000000) :
    Calls Tryz.prog 31 #[.slice A n c] w (Makes w 44 l) := by
  obtain ⟨i0, hi0, hz0, hz1, hz2⟩ := info_parts infoRef
  have HI := Lib.hid (And.intro hi0 (And.intro hz0 (And.intro hz1 hz2)))
  have HS := Lib.hid h
  have HL := Lib.hid hl
  clear h hl hi0 hz0 hz1 hz2
  go_enter Tryz.func31, Tryz.ntmps31
  go_wp2
  go_loopw [3, 8] (fun s i wr => ∃ (k : Nat) (v : Value), k ≤ n ∧ s = v ∧ i = .int .i64 k ∧ Own wr w.heap.size 44 v (l.take k) ∧ Only (w.heap.size ≤ ·) w wr) (fun _ i _ => n - (intOf i).toNat)
  case atStart => exact ⟨0, _, Nat.zero_le _, rfl, rfl, by rw [List.take_zero]; exact Own.nil_ _ _ _, Only.refl _ _⟩
  case round =>
    obtain ⟨k, v, hk, rfl, rfl, how, ho⟩ := hrel
    have HO := Lib.hid ho
    have HW := Lib.hid how
    clear ho how
    by_cases hlt : k < n
    · obtain ⟨g, off, x, rfl, hg, hx, hc1, hc2⟩ := (HS.out.later HO.out).at_ (k := k) (by rw [HL.out]; exact hlt)
      have HX := Lib.hid (rc_snoc l k x hx)
      have HK : Hid ((l.take k).length = k ∧ (l.take (k + 1)).length = k + 1) := ⟨by rw [List.length_take, HL.out]; omega, by rw [List.length_take, HL.out]; omega⟩
      obtain ⟨x1, x2⟩ := x
      clear hx
      have HB : Hid (Blk ((wr.alloc (.cells #[.int .i64 x1, .int .i64 x2] 54)).alloc (.cells #[.int .i64 x1, .int .i64 x2] 44)) (wr.heap.size + 1) 44 [.int .i64 x1, .int .i64 x2]) := by
        have := Blk.new (wr.alloc (.cells #[.int .i64 x1, .int .i64 x2] 54)) 44 [.int .i64 x1, .int .i64 x2]
        exact Lib.hid (by simpa using this)
      go_wp2_with (at_builtin; refine wpList_append_own _ rfl (.tmp 12) (.tmp 14) 22 rfl w.heap.size 44 i0 z2 2 16 Tryz.underlying22 HI.out.1 HI.out.2.1 HI.out.2.2.1 HI.out.2.2.2 (by rfl) (by omega) _ (l.take k).length (rc (l.take k)) rfl ((HW.out.alloc _).alloc _) ⟨wr.heap.size + 1, 0, none⟩ 1 1 (rc [(x1, x2)]) rfl rfl (fun j u hu => by rw [Addr.add_lit, HB.out.cell, Nat.zero_add]; exact hu) (rc_one _) (by rw [HK.out.1]; simp only [maxLen]; omega) (by rw [HK.out.1]; omega) (by have := HO.out.size; simp; omega) ?_; intro v' w' ho' hg' _; have HO' := Lib.hid (((HO.out.alloc (fun _ h => h) _).alloc (fun _ h => h) _).grown hg' (fun _ h => h) (fun g hg => (World.ownsRow.lt HW.out g hg).1)))
      go_roundw
      case rel => exact ⟨k + 1, v', by omega, rfl, by go_num, by unfold Own; rw [HK.out.2, HX.out]; rw [HK.out.1] at ho'; exact ho', HO'.out⟩
      case measure => simp [intOf]; omega
    · obtain rfl : k = n := by omega
      have hkm : ¬ (k : Int) < (k : Int) := by omega
      go_wp2
      go_ret
      exact ⟨_, rfl, by rw [List.take_of_length_le (by rw [HL.out]; exact Nat.le_refl _)] at HW; exact HW.out, HO.out⟩
theorem eqlRef (W : World) (a b c d : Int) : (binOp .eql 44 (.agg #[.int .i64 a, .int .i64 b]) (.agg #[.int .i64 c, .int .i64 d])).run Tryz.prog W = .ok (.bool (decide (a = c ∧ b = d))) W := by
  have u3 := Tryz.underlying3
  have a3 := Tryz.isAgg3
  have z3 := Tryz.sizeOf3
  have hS : Tryz.prog.underlying 44 = some (.struct (Tryz.prog.fieldsOf 44)) := by kernel_rfl
  have hp : Tryz.prog.stoodInHeld 44 = false := by kernel_rfl
  rw [run_eql_struct, show (10000 : Nat) = 9999 + 1 from rfl, run_equalIn_agg W 9999 44 _ _ hS hp]
  simp only [Program.fieldsOf, Tryz.underlying44]
  go_simp
  by_cases h1 : a = c <;> by_cases h2 : b = d <;> simp [h1, h2]
theorem eqlRun (W : World) (a b c d : Int) : (binOp .eql 54 (.agg #[.int .i64 a, .int .i64 b]) (.agg #[.int .i64 c, .int .i64 d])).run Tryz.prog W = .ok (.bool (decide (a = c ∧ b = d))) W := by
  have u3 := Tryz.underlying3
  have a3 := Tryz.isAgg3
  have z3 := Tryz.sizeOf3
  have hS : Tryz.prog.underlying 54 = some (.struct (Tryz.prog.fieldsOf 54)) := by kernel_rfl
  have hp : Tryz.prog.stoodInHeld 54 = false := by kernel_rfl
  rw [run_eql_struct, show (10000 : Nat) = 9999 + 1 from rfl, run_equalIn_agg W 9999 54 _ _ hS hp]
  simp only [Program.fieldsOf, Tryz.underlying54]
  go_simp
  by_cases h1 : a = c <;> by_cases h2 : b = d <;> simp [h1, h2]
theorem neqRef (W : World) (a b c d : Int) : (binOp .neq 44 (.agg #[.int .i64 a, .int .i64 b]) (.agg #[.int .i64 c, .int .i64 d])).run Tryz.prog W = .ok (.bool (!decide (a = c ∧ b = d))) W := by
  have h := eqlRef W a b c d
  rw [run_eql_struct] at h
  rw [run_neq_struct]
  revert h
  cases (Op.equalIn 10000 44 (.agg #[.int .i64 a, .int .i64 b]) (.agg #[.int .i64 c, .int .i64 d])).run Tryz.prog W with
  | ok b' w' => intro h; simp only [Result.andThen_ok, Result.ok.injEq, Value.bool.injEq] at h; obtain ⟨rfl, rfl⟩ := h; simp
  | _ => intro h; simp [Result.andThen] at h

set_option maxRecDepth 100000 in
set_option maxHeartbeats 3200000 in
theorem Same_c (w : World) (A B : Option Addr) (n m c d : Nat) (l r : List R) (h : Rs w A l) (h' : Rs w B r) (hl : l.length = n) (hr : r.length = m) (hn : n ≤ 9223372036854775807) (hm : m ≤ 9223372036854775807) :
    Calls Tryz.prog 30 #[.slice A n c, .slice B m d] w (Told w (.bool (decide (l = r)))) := by
  have HS := Lib.hid h
  have HS' := Lib.hid h'
  have HL := Lib.hid hl
  have HR := Lib.hid hr
  clear h h' hl hr
  obtain ⟨e, he⟩ : ∃ e, e = decide (l = r) := ⟨_, rfl⟩
  rw [← he]
  by_cases hnm : n = m
  · subst hnm
    have HB : Hid (e = decide (l.drop 0 = r.drop 0)) := he
    clear he
    go_enter Tryz.func30, Tryz.ntmps30
    go_wp2
    go_loopw [5] (fun i wr => ∃ (k : Nat), k ≤ n ∧ i = .int .i64 k ∧ Hid (e = decide (l.drop k = r.drop k)) ∧ Only (w.heap.size ≤ ·) w wr) (fun i _ => n - (intOf i).toNat)
    case atStart => exact ⟨0, Nat.zero_le _, rfl, HB, Only.refl _ _⟩
    case round =>
      obtain ⟨k, hk, rfl, HK, ho⟩ := hrel
      have HO := Lib.hid ho
      clear ho
      by_cases hlt : k < n
      · obtain ⟨g, off, x, rfl, hg, hx, hc1, hc2⟩ := (HS.out.later HO.out).at_ (k := k) (by rw [HL.out]; exact hlt)
        obtain ⟨g', off', y, rfl, hg', hy, hc1', hc2'⟩ := (HS'.out.later HO.out).at_ (k := k) (by rw [HR.out]; exact hlt)
        have HT : Hid (decide (l.drop k = r.drop k) = decide ((x.1 = y.1 ∧ x.2 = y.2) ∧ l.drop (k + 1) = r.drop (k + 1))) := by
          exact decide_eq_decide.2 (by rw [drop_at hx, drop_at hy, List.cons.injEq, Prod.ext_iff])
        obtain ⟨x1, x2⟩ := x
        obtain ⟨y1, y2⟩ := y
        clear hx hy
        have hn' : (k : Int) < (n : Int) := by omega
        have hk0 : (0 : Int) ≤ (k : Int) := by omega
        have hne := fun W => neqRef W x1 x2 y1 y2
        by_cases hxy : x1 = y1 ∧ x2 = y2
        · have HN : Hid (e = decide (l.drop (k + 1) = r.drop (k + 1))) := by
            show _ = _
            rw [HK.out, HT.out]
            exact decide_eq_decide.2 ⟨fun h => h.2, fun h => ⟨hxy, h⟩⟩
          simp only [hxy, and_self, decide_true, Bool.not_true] at hne
          obtain ⟨rfl, rfl⟩ := hxy
          go_wp2_with (fail)
          go_quiet (fail)
          go_wp2
          go_roundw
          case rel => exact ⟨k + 1, by omega, by go_num, HN, HO.out.drewN _⟩
          case measure => simp [intOf]; omega
        · obtain rfl : e = false := by
            rw [HK.out, HT.out]
            exact decide_eq_false fun h => hxy h.1
          have hne' : ∀ W : World, (binOp .neq 44 (.agg #[.int .i64 x1, .int .i64 x2]) (.agg #[.int .i64 y1, .int .i64 y2])).run Tryz.prog W = .ok (.bool true) W := fun W => by rw [hne W, decide_eq_false hxy]; rfl
          clear hne hxy
          go_wp2_with (fail)
          go_quiet (fail)
          go_wp2
          go_ret
          exact ⟨rfl, HO.out.drewN _⟩
      · obtain rfl : k = n := by omega
        have hkm : ¬ (k : Int) < (k : Int) := by omega
        obtain rfl : e = true := by rw [HK.out, List.drop_eq_nil_of_le (by rw [HL.out]; exact Nat.le_refl _), List.drop_eq_nil_of_le (by rw [HR.out]; exact Nat.le_refl _)]; rfl
        go_wp2
        go_ret
        exact ⟨rfl, HO.out⟩
  · obtain rfl : e = false := by
      rw [he]
      refine decide_eq_false fun h => hnm ?_
      rw [← HL.out, ← HR.out, h]
    have hne : ((n : Int) == (m : Int)) = false := beq_eq_false_iff_ne.2 (by omega)
    have hne' : ((n : Int) != (m : Int)) = true := bne_iff_ne.2 (by omega)
    go_enter Tryz.func30, Tryz.ntmps30
    go_wp2
    go_ret
    exact ⟨rfl, Only.refl _ _⟩

end Go.Proofs.YtmadlckladohbaaGreat
