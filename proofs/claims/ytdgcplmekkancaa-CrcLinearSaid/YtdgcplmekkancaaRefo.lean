/-
  The document's own sum.
-/
import Derived.Test.YtdgcplmekkancaaRest
set_option linter.unusedVariables false
namespace Go.Proofs.Ytdgcplmekkancaa
open Go.RowKit

def turn (k : Nat) (o : List Bool) : List Bool := o.mapIdx fun j b => b ^^ decide (j < k)
theorem turn_get (k : Nat) (o : List Bool) (j : Nat) : (turn k o)[j]? = o[j]?.map fun b => b ^^ decide (j < k) := by simp [turn, List.getElem?_mapIdx]
theorem turn_length (k : Nat) (o : List Bool) : (turn k o).length = o.length := by simp [turn]
theorem turn_zero (o : List Bool) : turn 0 o = o := by
  apply List.ext_getElem?
  intro j
  rw [turn_get]
  simp
theorem turn_set (k : Nat) (o : List Bool) (b : Bool) (h : (turn k o)[k]? = some b) : (turn k o).set k (!b) = turn (k + 1) o := by
  apply List.ext_getElem?
  intro j
  rw [List.getElem?_set]
  by_cases e : k = j
  · subst e
    have hl := (List.getElem?_eq_some_iff.1 h).1
    rw [if_pos rfl, if_pos hl, turn_get]
    rw [turn_get] at h
    cases ho : o[k]? with
    | none => rw [ho] at h; cases h
    | some u =>
      rw [ho] at h
      simp at h
      simp [h]
  · rw [if_neg e, turn_get, turn_get]
    congr 1
    funext u
    congr 1
    simp only [decide_eq_decide]
    omega
theorem turn_end32 (o : List Bool) : turn 32 o = divs o 0 := by
  rw [divs_zero]
  apply List.ext_getElem?
  intro j
  rw [turn_get, regX_get]
  congr 1
  funext u
  rw [M32_get]

theorem orig_snoc (xs : Bytes) (k : Nat) : bitsOf xs ++ List.replicate (k + 1) false = (bitsOf xs ++ List.replicate k false) ++ [false] := by
  rw [List.replicate_succ', List.append_assoc]

/-- The document's sum, as a call's end. -/
def Summed (w : World) (xs : Bytes) (e : Ending) (w' : World) : Prop := e = .returned (.int .u32 (sum xs : Nat)) ∧ Only (w.heap.size ≤ ·) w w'

set_option maxRecDepth 100000 in
set_option maxHeartbeats 1600000 in
theorem refOf_c (w : World) (A : Option Addr) (n c : Nat) (xs : Bytes) (ht : Txt w A n xs) (hn : n ≤ 65536) :
    Calls Try.prog 10 #[.slice A n c] w (Summed w xs) := by
  obtain ⟨i0, hi0, hz0, hz1, hz2⟩ := info_parts info4
  have HI := Lib.hid (And.intro hi0 (And.intro hz0 (And.intro hz1 hz2)))
  clear hi0 hz0 hz1 hz2
  have HBl : Hid ((bitsOf xs).length = 8 * n) := by show _ = _; rw [bitsOf_length, ht.1]
  have Hxl : Hid (xs.length = n) := ht.1
  have HT := Lib.hid ht
  clear ht
  go_enter Try.func10, Try.ntmps10
  go_wp2_with (go_at_call 16; refine (bits_c _ A n c xs HT.out hn).mono ?_; rintro e w1 ⟨v, rfl, hr⟩; have HR := Lib.hid hr; clear hr)
  go_loopw [4, 3] (fun i v wr => ∃ k : Nat, k ≤ 32 ∧ i = .int .i64 k ∧ Row w wr v (bitsOf xs ++ List.replicate k false)) (fun i _ _ => 32 - (intOf i).toNat)
  case atStart => exact ⟨0, by omega, rfl, by simpa using HR.out⟩
  case round =>
    clear HR
    obtain ⟨k, hk, rfl, hr⟩ := hrel
    have HR := Lib.hid hr
    clear hr
    by_cases hlt : k < 32
    · have k1 : (k : Int) < 32 := by omega
      have HL : Hid ((bitsOf xs ++ List.replicate k false).length ≤ 524320) := by
        have := HBl.out
        show _ ≤ _
        rw [List.length_append, List.length_replicate]
        omega
      have HZ : Hid (w.heap.size ≤ (wr.alloc (.cells #[.bool false] 4)).heap.size) := by
        have := HR.out.2.size
        show _ ≤ _
        simp
        omega
      go_wp2_with (at_builtin; refine wpList_append_own _ rfl (.tmp 14) (.tmp 15) 34 rfl w.heap.size 4 i0 _ 1 1 Try.underlying34 HI.out.1 HI.out.2.1 HI.out.2.2.1 HI.out.2.2.2 (by rfl) (by omega) _ _ _ rfl (HR.out.1.alloc _) ⟨wr.heap.size, 0, none⟩ 1 1 [.bool false] rfl (by rfl) (one_cell wr 4 _) (by simp [Value.oneCell']) (by have := HL.out; simp only [maxLen]; omega) (by have := HL.out; omega) HZ.out ?_; intro v' w' ho' hg' _)
      have HN : Hid (Row w w' v' (bitsOf xs ++ List.replicate (k + 1) false)) := by
        show Row _ _ _ _
        rw [orig_snoc]
        exact HR.out.grown ((Only.refl _ wr).alloc (fun _ h => Nat.le_trans HR.out.2.size h) _) (M := [false]) ho' (by simp) hg'
      refine ⟨⟨k + 1, by omega, by go_num, HN.out⟩, ?_⟩
      simp [intOf]
      omega
    · obtain rfl : k = 32 := by omega
      have HOl : Hid ((orig xs).length = 8 * n + 32) := by show _ = _; rw [orig_length, Hxl.out]
      have HR2 : Hid (Row w wr u3 (orig xs)) := HR.out
      clear HR
      have hrow := HR2.out.1
      rw [HOl.out] at hrow
      obtain ⟨g, cap, rfl, hg1, hg2⟩ := hrow.form (by omega)
      have HD : Hid (wr.ownsRow w.heap.size 4 1 (.slice (some ⟨g, 0, none⟩) (8 * n + 32) cap) (8 * n + 32) (bs (turn 0 (orig xs))) ∧ Only (w.heap.size ≤ ·) w wr) := by
        rw [turn_zero]
        exact ⟨hrow, HR2.out.2⟩
      obtain ⟨N, hN⟩ : ∃ N, N = 8 * n + 32 := ⟨_, rfl⟩
      rw [← hN] at HOl HD ⊢
      have HN := Lib.hid hN
      have hNb : N ≤ 524320 := by omega
      have hNb2 : 32 ≤ N := by omega
      clear hrow HR2 hN
      go_wp2
      go_loopw [5] (fun i wr => ∃ k : Nat, k ≤ 32 ∧ i = .int .i64 k ∧ (wr.ownsRow w.heap.size 4 1 (.slice (some ⟨g, 0, none⟩) N cap) N (bs (turn k (orig xs))) ∧ Only (w.heap.size ≤ ·) w wr)) (fun i _ => 32 - (intOf i).toNat)
      case atStart => exact ⟨0, by omega, rfl, HD.out⟩
      case round =>
        clear HD
        obtain ⟨k, hk, rfl, hd⟩ := hrel
        have HD := Lib.hid hd
        clear hd
        by_cases hlt : k < 32
        · have k1 : (k : Int) < 32 := by omega
          have k2 : (k : Int) < (N : Int) := by omega
          obtain ⟨b, hb⟩ : ∃ b, (turn k (orig xs))[k]? = some b := ⟨_, List.getElem?_eq_getElem (by rw [turn_length]; have := HOl.out; omega)⟩
          have hc1 : wr.cell? ⟨g, k, none⟩ = some (.bool b) := by
            rw [HD.out.1.cellAt k (by omega), bs_get, hb]
            rfl
          have hf1 := HD.out.1.frozenAt k
          have HE := Lib.hid (turn_set k (orig xs) b hb)
          have HD2 : Hid ((wr.setCell ⟨g, k, none⟩ (.bool (!b))).ownsRow w.heap.size 4 1 (.slice (some ⟨g, 0, none⟩) N cap) N (bs (turn (k + 1) (orig xs))) ∧ Only (w.heap.size ≤ ·) w (wr.setCell ⟨g, k, none⟩ (.bool (!b)))) := by
            have h := (HD.out.1.stored k (.bool (!b))).1
            rw [show (bs (turn k (orig xs))).set k (.bool (!b)) = bs ((turn k (orig xs)).set k (!b)) by simp [bs], HE.out] at h
            exact ⟨h, HD.out.2.setCell hg1 _⟩
          clear hb HE
          go_wp2
          refine ⟨⟨k + 1, by omega, by go_num, HD2.out⟩, ?_⟩
          simp [intOf]
          omega
        · obtain rfl : k = 32 := by omega
          have HD2 : Hid (wr.ownsRow w.heap.size 4 1 (.slice (some ⟨g, 0, none⟩) (8 * n + 32) cap) (8 * n + 32) (bs (divs (orig xs) 0))) := by
            rw [← turn_end32, ← HN.out]
            exact HD.out.1
          have HOO := Lib.hid HD.out.2
          have HOl2 : Hid ((orig xs).length = 8 * n + 32) := by have := HOl.out; rw [HN.out] at this; exact this
          have Hend : Hid (∀ j, j < 32 → (divs (orig xs) (8 * n))[8 * n + j]? = some ((run M32 xs).testBit j)) := by
            intro j hj
            have := divs_end xs j hj
            rw [Hxl.out] at this
            exact this
          have HEN : Hid (Value.slice (some ⟨g, 0, none⟩) N cap = .slice (some ⟨g, 0, none⟩) (8 * n + 32) cap) := by show _ = _; rw [HN.out]
          go_wp2_with (go_at_call 17; rw [HEN.out]; refine (rest_c _ w.heap.size _ (8 * n) (orig xs) HD2.out HOl2.out (by omega)).mono ?_; rintro e w2 ⟨g2, c2, rfl, hcells, ho2⟩; have HC := Lib.hid hcells; have HO2 := Lib.hid ho2; clear hcells ho2)
          obtain ⟨C, hCe⟩ : ∃ C, C = run M32 xs := ⟨_, rfl⟩
          rw [← hCe] at Hend
          have HCe : Hid (sum xs = C ^^^ M32) := by
            show _ = _
            rw [hCe]
            unfold sum upd
            rw [Nat.zero_xor]
          have hCl : C ^^^ M32 < 4294967296 := by rw [hCe]; exact xor_lt (run_lt M32_lt _) M32_lt
          obtain ⟨D, hD⟩ : ∃ D, D = C ^^^ M32 := ⟨_, rfl⟩
          have Hte : Hid (∀ k, k < 32 → D / 2 ^ k = 2 * (D / 2 ^ (k + 1)) + (if C.testBit k then 0 else 1)) := by
            intro k hk
            rw [hD]
            exact turn_end k hk
          rw [← hD] at HCe hCl
          have HOE : Hid (Only (w.heap.size ≤ ·) w w2) := HOO.out.trans (HO2.out.mono fun k h => Nat.le_trans HOO.out.size h)
          clear hCe hD HOO HO2 HEN HD HD2 HN
          go_loop [7, 6] (fun i v => ∃ j : Nat, j ≤ 32 ∧ i = .int .i64 ((j : Int) - 1) ∧ v = .int .u32 (D / 2 ^ j : Nat)) (fun i _ => (intOf i + 1).toNat)
          case atStart => exact ⟨32, by omega, rfl, by rw [Nat.div_eq_of_lt (by omega)]; rfl⟩
          case round =>
            obtain ⟨j, hj, rfl, rfl⟩ := hrel
            cases j with
            | zero =>
              have e0 : ((0 : Nat) : Int) - 1 = -1 := rfl
              rw [e0]
              rw [show D / 2 ^ 0 = D by simp]
              go_wp2
              go_ret
              exact ⟨by rw [HCe.out]; rfl, HOE.out⟩
            | succ k =>
              have e0 : ((k + 1 : Nat) : Int) - 1 = (k : Int) := by omega
              rw [e0]
              have hk : k < 32 := by omega
              have k0 : (0 : Int) ≤ (k : Int) := by omega
              have k1 : (k : Int) < 32 := by omega
              have hc1 := HC.out k _ hk (Hend.out k hk)
              have ht := Hte.out k hk
              have hz : D / 2 ^ (k + 1) < 2147483648 := by
                have : D / 2 ^ k < 4294967296 := Nat.lt_of_le_of_lt (Nat.div_le_self _ _) hCl
                omega
              obtain ⟨z, hze⟩ : ∃ z, z = D / 2 ^ (k + 1) := ⟨_, rfl⟩
              rw [← hze] at ht hz ⊢
              obtain ⟨b, hbe⟩ : ∃ b, b = C.testBit k := ⟨_, rfl⟩
              rw [← hbe] at hc1 ht
              clear hze hbe
              cases b with
              | true =>
                have Hz : Hid (D / 2 ^ k = 2 * z) := by show _ = _; simpa using ht
                clear ht
                go_wp2
                refine ⟨⟨k, by omega, rfl, ?_⟩, ?_⟩
                · rw [Hz.out]
                  congr 1
                  omega
                · simp [intOf]
              | false =>
                have Hz : Hid (D / 2 ^ k = 2 * z + 1) := by show _ = _; simpa using ht
                clear ht
                go_wp2
                refine ⟨⟨k, by omega, rfl, ?_⟩, ?_⟩
                · rw [Hz.out]
                  congr 1
                  omega
                · simp [intOf]
end Go.Proofs.Ytdgcplmekkancaa
