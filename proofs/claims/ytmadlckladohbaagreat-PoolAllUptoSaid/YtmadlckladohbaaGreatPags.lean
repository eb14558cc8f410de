/-
  Pages of the program.
-/
import Derived.Test.YtmadlckladohbaaGreatPage
set_option linter.unusedVariables false
namespace Go.Proofs.YtmadlckladohbaaGreat
open Go.RowKit

def ic (l : List Int) : List Value := l.map (.int .i64)
theorem ic_one (l : List Int) : ∀ u ∈ ic l, u.oneCell' = true := by
  intro u hu
  obtain ⟨x, _, rfl⟩ := List.mem_map.1 hu
  rfl
def runPages (r : R) (j : Nat) : List Int := (List.range j).map fun k : Nat => r.1 + (k : Int)
def pagesOf (l : List R) : List Int := l.flatMap fun r => runPages r r.2.toNat
theorem runPages_succ (r : R) (j : Nat) : runPages r (j + 1) = runPages r j ++ [r.1 + (j : Int)] := by simp [runPages, List.range_succ]
theorem pagesOf_snoc {l : List R} {k : Nat} {x : R} (h : l[k]? = some x) : pagesOf (l.take (k + 1)) = pagesOf (l.take k) ++ runPages x x.2.toNat := by
  unfold pagesOf
  rw [List.take_add_one, h]
  simp
def z0 : Value := .int .i64 0
theorem infoI : (Tryz.prog.info? 3).map (fun i => (i.zero, i.size, i.bytes)) = some (some z0, 1, 8) := by kernel_rfl
/-- A row of numbers of the call's own. -/
def MakesI (w : World) (l : List Int) (e : Ending) (w' : World) : Prop := ∃ v, e = .returned v ∧ w'.ownsRow w.heap.size 3 1 v l.length (ic l) ∧ Only (w.heap.size ≤ ·) w w'

set_option maxRecDepth 100000 in
set_option maxHeartbeats 6400000 in
theorem Pages_c (w : World) (v : Value) (l : List R) (h : Row w v l) (hr : ∀ x ∈ l, I64 x) : Calls Tryz.prog 63 #[v] w (MakesI w (pagesOf (known l))) := by
  have HK := Lib.hid (knows_c w v l h hr)
  obtain ⟨i0, hi0, hz0, hz1, hz2⟩ := info_parts infoI
  have HI := Lib.hid (And.intro hi0 (And.intro hz0 (And.intro hz1 hz2)))
  clear hi0 hz0 hz1 hz2
  obtain ⟨K, hK⟩ : ∃ K, K = known l := ⟨_, rfl⟩
  have HR : Hid (right K = true) := by rw [hK]; exact known_right l
  rw [← hK]
  have HKE := Lib.hid hK
  clear hK h hr
  go_enter Tryz.func63, Tryz.ntmps63
  go_wp2_with (go_at_call 46; refine HK.out.mono ?_; rintro e w1 ⟨⟨A, n, c, rfl, hn, hs, hnc, hc⟩, ho1⟩; have HO1 := Lib.hid ho1; have HN := Lib.hid hn; have HS := Lib.hid hs; clear ho1 hn hs)
  have HNK : Hid (n = K.length ∧ Rs w A K ∧ n ≤ 32768) := ⟨by rw [HKE.out]; exact HN.out, by rw [HKE.out]; exact HS.out, by rw [HN.out]; exact right_length (known_right l)⟩
  have hn3 := HNK.out.2.2
  go_loopw [3, 10] (fun s i wr => ∃ (k P : Nat) (u : Value), k ≤ n ∧ P ≤ k * 32768 ∧ s = u ∧ i = .int .i64 k ∧ Hid (P = (pagesOf (K.take k)).length) ∧ Hid (wr.ownsRow w.heap.size 3 1 u P (ic (pagesOf (K.take k)))) ∧ Only (w.heap.size ≤ ·) w wr) (fun _ i _ => n - (intOf i).toNat)
  case atStart => exact ⟨0, 0, _, Nat.zero_le _, Nat.le_refl _, rfl, rfl, rfl, World.ownsRow_nil _ _ _ _, HO1.out⟩
  case round =>
    obtain ⟨k, P, u, hk, hPk, rfl, rfl, HP, HW, ho⟩ := hrel
    have HO := Lib.hid ho
    clear ho
    by_cases hlt : k < n
    · obtain ⟨g, off, x, rfl, hg, hx, hc1, hc2⟩ := (HNK.out.2.1.later HO.out).at_ (k := k) (by rw [← HNK.out.1]; exact hlt)
      have HX := Lib.hid (pagesOf_snoc hx)
      have hmx := (may_iff x).1 (right_may HR.out x (List.mem_of_getElem? hx))
      obtain ⟨x1, x2⟩ := x
      simp only at hmx HX
      clear hx
      obtain ⟨m, rfl⟩ : ∃ m : Nat, x2 = m := ⟨x2.toNat, by omega⟩
      rw [Int.toNat_natCast] at HX
      have HBX : Hid (Blk (wr.alloc (.cells #[.int .i64 x1, .int .i64 (m : Int)] 54)) wr.heap.size 54 [.int .i64 x1, .int .i64 (m : Int)]) := Blk.new wr _ _
      go_wp2
      obtain ⟨bx, hbx⟩ : ∃ bx, bx = wr.heap.size := ⟨_, rfl⟩
      rw [← hbx] at HBX ⊢
      have HWA := Lib.hid (World.ownsRow.alloc HW.out (.cells #[.int .i64 x1, .int .i64 (m : Int)] 54))
      have HOA : Hid (Only (w.heap.size ≤ ·) w (wr.alloc (.cells #[.int .i64 x1, .int .i64 (m : Int)] 54))) := HO.out.alloc (fun _ h => h) _
      clear hbx hc1 hc2
      go_loopw [3, 16] (fun s i wq => ∃ (j Q : Nat) (u : Value), j ≤ m ∧ Q = P + j ∧ s = u ∧ i = .int .i64 j ∧ Hid (wq.ownsRow w.heap.size 3 1 u Q (ic (pagesOf (K.take k) ++ runPages (x1, (m : Int)) j))) ∧ Hid (Blk wq bx 54 [.int .i64 x1, .int .i64 (m : Int)]) ∧ Only (w.heap.size ≤ ·) w wq) (fun _ i _ => m - (intOf i).toNat)
      case atStart => exact ⟨0, P, _, Nat.zero_le _, rfl, rfl, rfl, Lib.hid (by simpa [runPages] using HWA.out), HBX, HOA.out⟩
      case round =>
        obtain ⟨j, Q, u2, hj, hQ, rfl, rfl, HW2, HB2, ho2⟩ := hrel
        have HO2 := Lib.hid ho2
        have HQ := Lib.hid hQ
        have hQb : Q ≤ 1073774592 := by omega
        clear ho2 hQ
        have hq0 := HB2.out.cell 0
        simp at hq0
        by_cases hjm : j < m
        · have HBL : Hid (Blk (wr.alloc (.cells #[.int .i64 (x1 + (j : Int))] 3)) wr.heap.size 3 [.int .i64 (x1 + (j : Int))]) := Blk.new wr _ _
          have HS2 := Lib.hid (runPages_succ (x1, (m : Int)) j)
          go_wp2_with (at_builtin; refine wpList_append_own _ rfl (.tmp 19) (.tmp 24) 37 rfl w.heap.size 3 i0 z0 1 8 Tryz.underlying37 HI.out.1 HI.out.2.1 HI.out.2.2.1 HI.out.2.2.2 (by rfl) (by omega) _ Q _ rfl (World.ownsRow.alloc HW2.out _) ⟨wr.heap.size, 0, none⟩ 1 1 (ic [x1 + (j : Int)]) rfl rfl (fun j u hu => by rw [Addr.add_lit, HBL.out.cell, Nat.zero_add]; exact hu) (ic_one _) (by simp only [maxLen]; omega) (by omega) (by have := HO2.out.size; simp; omega) ?_; intro v' w' ho' hg' _; have HN := Lib.hid ho'; have HO' := Lib.hid ((HO2.out.alloc (fun _ h => h) (.cells #[.int .i64 (x1 + (j : Int))] 3)).grown hg' (fun _ h => h) (fun g hg => (World.ownsRow.lt HW2.out g hg).1)); have HB' := Lib.hid ((HB2.out.alloc (.cells #[.int .i64 (x1 + (j : Int))] 3)).grown hg' (own_ne HW2.out HB2.out (by decide))); clear ho' hg')
          go_roundw
          case rel => exact ⟨j + 1, Q + 1, _, by omega, by have := HQ.out; omega, rfl, by go_num, Lib.hid (by rw [HS2.out, ← List.append_assoc]; simpa [ic] using HN.out), HB', HO'.out⟩
          case measure => simp [intOf]; omega
        · obtain rfl : j = m := by omega
          have hkm : ¬ (j : Int) < (j : Int) := by omega
          go_wp2
          go_roundw
          case rel => exact ⟨k + 1, Q, _, by omega, by have := HQ.out; omega, rfl, by go_num, Lib.hid (by rw [HX.out, List.length_append, ← HP.out, HQ.out]; simp [runPages]), Lib.hid (by rw [HX.out]; exact HW2.out), HO2.out⟩
          case measure => simp [intOf]; omega
    · obtain rfl : k = n := by omega
      have hkm : ¬ (k : Int) < (k : Int) := by omega
      have HT : Hid (K.take k = K) := List.take_of_length_le (by rw [← HNK.out.1]; exact Nat.le_refl _)
      rw [HT.out] at HP HW
      go_wp2
      go_ret
      exact ⟨_, rfl, by rw [← HP.out]; exact HW.out, HO.out⟩
end Go.Proofs.YtmadlckladohbaaGreat
