/-
  known, Pages, Count, End of the program.
-/
import Derived.Test.YtmadlckladohbaaGreatRuns
import Derived.Lib.OwnKind
set_option linter.unusedVariables false
namespace Go.Proofs.YtmadlckladohbaaGreat
open Go.RowKit

theorem Blk.grown {w w' : World} {g : Nat} {t : TypeId} {cs : List Value} {row : Option Nat} (h : Blk w g t cs) (hg : w.grownBy w' row) (hne : row ≠ some g) : Blk w' g t cs := (hg.block g h.lt (Ne.symm hne)).trans h
theorem own_ne {w : World} {B s n g : Nat} {e t : TypeId} {v : Value} {xs cs : List Value} (h : w.ownsRow B e s v n xs) (hb : Blk w g t cs) (hne : e ≠ t) : v.ownBlock ≠ some g := fun he => by
  obtain ⟨c, fz, hc⟩ := Lib.ownsRow_kind h g he
  unfold Blk at hb
  rw [hb] at hc
  injection hc with hc
  injection hc with _ h2
  exact hne h2.symm

theorem right_room {x : R} : ∀ {l : List R}, may x = true → rightFrom (some x) l = true → x.1 + x.2 + l.length ≤ 32768
  | [], hm, _ => by have := (may_iff x).1 hm; simp; omega
  | y :: l, hm, h => by
    obtain ⟨h1, h2, h3⟩ := rightFrom_cons.1 h
    have := right_room h1 h3
    rw [gap_some] at h2
    have := (may_iff y).1 h1
    simp only [List.length_cons]
    omega
theorem right_length {l : List R} (h : right l = true) : l.length ≤ 32768 := by
  cases l with
  | nil => simp
  | cons x l =>
    obtain ⟨h1, h2⟩ := right_cons.1 h
    have := right_room h1 h2
    have := (may_iff x).1 h1
    simp only [List.length_cons]
    omega

/-- A row that is known, as a slice value. -/
def KnownSays (w : World) (l : List R) (e : Ending) (w' : World) : Prop := (∃ A n c, e = .returned (.slice A n c) ∧ n = (known l).length ∧ Rs w A (known l) ∧ n ≤ c ∧ c ≤ 9223372036854775807) ∧ Only (w.heap.size ≤ ·) w w'
theorem knows_c (w : World) (v : Value) (l : List R) (h : Row w v l) (hr : ∀ x ∈ l, I64 x) : Calls Tryz.prog 46 #[v] w (KnownSays w l) := by
  obtain ⟨A, c, rfl, hs, _, hn, hc⟩ := h
  refine (known_c w A _ c l hs rfl hr hn hc).mono fun e w' ⟨he, ho⟩ => ⟨?_, ho⟩
  by_cases hri : right l = true
  · rw [if_pos hri] at he
    exact ⟨A, _, c, he, by rw [known_of hri], by rw [known_of hri]; exact hs, hn, hc⟩
  · rw [if_neg hri] at he
    have hk := known_not (by simpa using hri : right l = false)
    exact ⟨none, 0, 0, he, by rw [hk]; rfl, by rw [hk]; exact Rs.nil_ _ _, Nat.le_refl _, by omega⟩

def cnt (l : List R) : Int := (l.map (·.2)).sum
theorem cnt_snoc {l : List R} {k : Nat} {x : R} (h : l[k]? = some x) : cnt (l.take (k + 1)) = cnt (l.take k) + x.2 := by
  unfold cnt
  rw [List.take_add_one, h]
  simp
theorem cnt_le {l : List R} (h : ∀ x ∈ l, may x = true) : ∀ k, 0 ≤ cnt (l.take k) ∧ cnt (l.take k) ≤ k * 32768
  | 0 => by simp [cnt]
  | k + 1 => by
    have ih := cnt_le h k
    cases hk : l[k]? with
    | none => rw [List.take_add_one, hk]; simp; omega
    | some x =>
      have := (may_iff x).1 (h x (List.mem_of_getElem? hk))
      rw [cnt_snoc hk]; omega

set_option maxRecDepth 100000 in
set_option maxHeartbeats 3200000 in
theorem Count_c (w : World) (v : Value) (l : List R) (h : Row w v l) (hr : ∀ x ∈ l, I64 x) : Calls Tryz.prog 21 #[v] w (Told w (.int .i64 (cnt (known l)))) := by
  have HK := Lib.hid (knows_c w v l h hr)
  obtain ⟨K, hK⟩ : ∃ K, K = known l := ⟨_, rfl⟩
  have HR : Hid (right K = true) := by rw [hK]; exact known_right l
  rw [← hK]
  have HKE := Lib.hid hK
  clear hK h hr
  go_enter Tryz.func21, Tryz.ntmps21
  go_wp2_with (go_at_call 46; refine HK.out.mono ?_; rintro e w1 ⟨⟨A, n, c, rfl, hn, hs, hnc, hc⟩, ho1⟩; have HO1 := Lib.hid ho1; have HN := Lib.hid hn; have HS := Lib.hid hs; clear ho1 hn hs)
  have HNK : Hid (n = K.length ∧ Rs w A K ∧ n ≤ 32768) := ⟨by rw [HKE.out]; exact HN.out, by rw [HKE.out]; exact HS.out, by rw [HN.out]; exact right_length (known_right l)⟩
  have hn3 := HNK.out.2.2
  go_loopw [3, 9] (fun s i wr => ∃ (k : Nat) (t : Int), k ≤ n ∧ s = .int .i64 t ∧ i = .int .i64 k ∧ Hid (t = cnt (K.take k)) ∧ Only (w.heap.size ≤ ·) w wr) (fun _ i _ => n - (intOf i).toNat)
  case atStart => exact ⟨0, 0, Nat.zero_le _, rfl, rfl, rfl, HO1.out⟩
  case round =>
    obtain ⟨k, t, hk, rfl, rfl, HT, ho⟩ := hrel
    have HO := Lib.hid ho
    clear ho
    by_cases hlt : k < n
    · obtain ⟨g, off, x, rfl, hg, hx, hc1, hc2⟩ := (HNK.out.2.1.later HO.out).at_ (k := k) (by rw [← HNK.out.1]; exact hlt)
      have HX := Lib.hid (cnt_snoc hx)
      have hmx := (may_iff x).1 (right_may HR.out x (List.mem_of_getElem? hx))
      have hb := cnt_le (right_may HR.out) k
      rw [← HT.out] at hb
      obtain ⟨x1, x2⟩ := x
      simp only at hmx
      clear hx
      go_wp2
      go_roundw
      case rel => exact ⟨k + 1, _, by omega, rfl, by go_num, Lib.hid (by rw [HX.out, ← HT.out]), HO.out.alloc (fun _ h => h) _⟩
      case measure => simp [intOf]; omega
    · obtain rfl : k = n := by omega
      have hkm : ¬ (k : Int) < (k : Int) := by omega
      go_wp2
      go_ret
      exact ⟨by rw [HT.out, List.take_of_length_le (by rw [← HNK.out.1]; exact Nat.le_refl _)]; rfl, HO.out⟩

def endOf (l : List R) : Int := (lastOf l).1 + (lastOf l).2
set_option maxRecDepth 100000 in
set_option maxHeartbeats 3200000 in
theorem End_c (w : World) (v : Value) (l : List R) (h : Row w v l) (hr : ∀ x ∈ l, I64 x) : Calls Tryz.prog 26 #[v] w (Told w (.int .i64 (endOf (known l)))) := by
  have HK := Lib.hid (knows_c w v l h hr)
  have HE : Hid (∀ W : World, Calls Tryz.prog 52 #[.agg #[.int .i64 (lastOf (known l)).1, .int .i64 (lastOf (known l)).2]] W fun e w' => e = .returned (.int .i64 (endOf (known l))) ∧ Only (W.heap.size ≤ ·) W w') := fun W => by
    have hb : 0 ≤ (lastOf (known l)).1 ∧ 0 ≤ (lastOf (known l)).2 ∧ (lastOf (known l)).1 + (lastOf (known l)).2 ≤ 32768 := by
      unfold lastOf
      cases hl : (known l).getLast? with
      | none => simp
      | some r =>
        have := (may_iff r).1 (right_may (known_right l) r (List.mem_of_getLast? hl))
        simp only [Option.getD_some]
        omega
    exact end_c W _ _ (by omega) (by omega)
  have HRL := Lib.hid (right_length (known_right l))
  clear h hr
  have HL : Hid (∀ (W : World) (A : Option Addr) (n c : Nat), Rs W A (known l) → n = (known l).length → Calls Tryz.prog 51 #[.slice A n c] W fun e w' => ∃ b, e = .returned (.tuple #[.agg #[.int .i64 (lastOf (known l)).1, .int .i64 (lastOf (known l)).2], .bool b]) ∧ Only (W.heap.size ≤ ·) W w') := fun W A n c hs hn =>
    (last_c W A n c (known l) hs hn.symm (by have := HRL.out; omega)).mono fun e w' ⟨h1, h2⟩ => ⟨_, h1, h2⟩
  generalize endOf (known l) = E at *
  generalize lastOf (known l) = q at *
  obtain ⟨q1, q2⟩ := q
  simp only at HE HL
  go_enter Tryz.func26, Tryz.ntmps26
  go_wp2_with (first | (go_at_call 46; refine HK.out.mono ?_; rintro e w1 ⟨⟨A, n, c, rfl, hn, hs, hnc, hc⟩, ho1⟩; have HO1 := Lib.hid ho1; have HN := Lib.hid hn; have HS := Lib.hid (hs.later ho1); clear ho1 hn hs) | (go_at_call 51; refine (HL.out _ A n c HS.out HN.out).mono ?_; rintro e w2 ⟨bb, rfl, ho2⟩; have HO2 := Lib.hid (on_new HO1.out ho2); clear ho2) | (go_at_call 52; refine (HE.out _).mono ?_; rintro e w3 ⟨rfl, ho3⟩; have HO3 := Lib.hid (on_new (HO2.out.alloc (fun _ h => h) (.cells #[.int .i64 q1, .int .i64 q2] 54)) ho3); clear ho3))
  go_ret
  exact ⟨rfl, HO3.out⟩
end Go.Proofs.YtmadlckladohbaaGreat
