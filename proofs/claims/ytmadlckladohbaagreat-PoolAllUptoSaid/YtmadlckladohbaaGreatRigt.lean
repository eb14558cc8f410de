/-
  Right and known of the program, Right of the document.
-/
import Derived.Test.YtmadlckladohbaaGreatSmal
import Derived.Deep.LoopGhost
set_option linter.unusedVariables false
namespace Go.Proofs.YtmadlckladohbaaGreat
open Go.RowKit

def gap : Option R → R → Bool
  | none, _ => true
  | some q, x => decide (q.1 + q.2 < x.1)
def rightFrom : Option R → List R → Bool
  | _, [] => true
  | p, x :: l => may x && gap p x && rightFrom (some x) l
def right (l : List R) : Bool := rightFrom none l
def prev (l : List R) (k : Nat) : Option R := (l.take k).getLast?
theorem prev_zero (l : List R) : prev l 0 = none := by simp [prev]
theorem prev_succ {l : List R} {k : Nat} {x : R} (h : l[k]? = some x) : prev l (k + 1) = some x := by
  unfold prev
  rw [List.take_add_one, h]
  simp
theorem drop_at {α : Type} {l : List α} {k : Nat} {x : α} (h : l[k]? = some x) : l.drop k = x :: l.drop (k + 1) := by
  obtain ⟨hk, rfl⟩ := List.getElem?_eq_some_iff.1 h
  exact List.drop_eq_getElem_cons hk
theorem right_step {l : List R} {k : Nat} {x : R} (h : l[k]? = some x) : rightFrom (prev l k) (l.drop k) = (may x && gap (prev l k) x && rightFrom (prev l (k + 1)) (l.drop (k + 1))) := by
  rw [drop_at h, prev_succ h]
  rfl

theorem Blk.later {w w' : World} {g : Nat} {t : TypeId} {cs : List Value} (h : Blk w g t cs) (ho : Only (w.heap.size ≤ ·) w w') : Blk w' g t cs := h.only ho (Nat.not_le.2 h.lt)
def Told (w : World) (v : Value) (e : Ending) (w' : World) : Prop := e = .returned v ∧ Only (w.heap.size ≤ ·) w w'
theorem on_new {w0 w w' : World} (h : Only (w0.heap.size ≤ ·) w0 w) (ho : Only (w.heap.size ≤ ·) w w') : Only (w0.heap.size ≤ ·) w0 w' := h.trans (ho.mono fun k hk => Nat.le_trans h.size hk)
theorem lastOf_prev {l : List R} {k : Nat} {x : R} (h : l[k]? = some x) : lastOf (l.take (k + 1)) = x := by
  have := prev_succ h
  unfold prev at this
  unfold lastOf
  rw [this]
  rfl

set_option maxRecDepth 100000 in
set_option maxHeartbeats 3200000 in
theorem Right_c (w : World) (A : Option Addr) (n c : Nat) (l : List R) (h : Rs w A l) (hl : l.length = n) (hr : ∀ x ∈ l, I64 x) (hn : n ≤ c) (hc : c ≤ 9223372036854775807) :
    Calls Tryz.prog 66 #[.slice A n c] w (Told w (.bool (right l))) := by
  have HS := Lib.hid h
  have HL := Lib.hid hl
  have HR := Lib.hid hr
  clear h hl hr
  obtain ⟨b, hb⟩ : ∃ b, b = right l := ⟨_, rfl⟩
  rw [← hb]
  have HB : Hid (b = rightFrom (prev l 0) (l.drop 0) ∧ ∀ q, prev l 0 = some q → may q = true) := ⟨by rw [hb]; rfl, fun q h => by rw [prev_zero] at h; cases h⟩
  clear hb
  go_enter Tryz.func66, Tryz.ntmps66
  go_wp2
  go_loopw [9] (fun i wr => ∃ (k : Nat), k ≤ n ∧ i = .int .i64 k ∧ Hid (b = rightFrom (prev l k) (l.drop k) ∧ ∀ q, prev l k = some q → may q = true) ∧ Only (w.heap.size ≤ ·) w wr) (fun i _ => n - (intOf i).toNat)
  case atStart => exact ⟨0, Nat.zero_le _, rfl, HB, Only.refl _ _⟩
  case round =>
    obtain ⟨k, hk, rfl, HK, ho⟩ := hrel
    have HO := Lib.hid ho
    clear ho
    by_cases hlt : k < n
    · obtain ⟨g, off, x, rfl, hg, hx, hc1, hc2⟩ := (HS.out.later HO.out).at_ (k := k) (by rw [HL.out]; exact hlt)
      have HT := Lib.hid (right_step hx)
      have HX := Lib.hid hx
      have hI := HR.out x (List.mem_of_getElem? hx)
      obtain ⟨x1, x2⟩ := x
      obtain ⟨hI1, hI2, hI3, hI4⟩ := hI
      clear hx
      obtain ⟨m, hm⟩ : ∃ m, m = may (x1, x2) := ⟨_, rfl⟩
      have HM := Lib.hid hm
      clear hm
      have HMC : Hid (∀ W : World, Calls Tryz.prog 68 #[.agg #[.int .i64 x1, .int .i64 x2]] W fun e w' => e = .returned (.bool m) ∧ Only (W.heap.size ≤ ·) W w') := fun W => by rw [HM.out]; exact mayBe_c W x1 x2 hI2
      cases m
      · obtain rfl : b = false := by rw [HK.out.1, HT.out, ← HM.out]; rfl
        go_wp2_with (go_at_call 68; refine (HMC.out _).mono ?_; rintro e w1 ⟨rfl, ho1⟩; have HO1 := Lib.hid ho1; clear ho1)
        go_ret
        exact ⟨rfl, on_new (HO.out.alloc (fun _ h => h) _) HO1.out⟩
      · have hmx := (may_iff (x1, x2)).1 HM.out.symm
        have HLT : Hid (∀ W : World, Only (wr.heap.size ≤ ·) wr W → Calls Tryz.prog 51 #[.slice (some ⟨g, off, none⟩) k c] W fun e w' => e = .returned (.tuple #[.agg #[.int .i64 (lastOf (l.take k)).1, .int .i64 (lastOf (l.take k)).2], .bool (decide (0 < k))]) ∧ Only (W.heap.size ≤ ·) W w') := fun W hW => last_c W _ k c (l.take k) (((HS.out.later HO.out).later hW).take k) (by rw [List.length_take, HL.out]; omega) (by omega)
        have HB0 : Hid (Blk (wr.alloc (.cells #[.int .i64 x1, .int .i64 x2] 54)) wr.heap.size 54 [.int .i64 x1, .int .i64 x2]) := Blk.new wr _ [.int .i64 x1, .int .i64 x2]
        rcases Nat.eq_zero_or_pos k with hk0 | hk0
        · have HL0 : Hid (∀ W : World, Only (wr.heap.size ≤ ·) wr W → Calls Tryz.prog 51 #[.slice (some ⟨g, off, none⟩) k c] W fun e w' => e = .returned (.tuple #[.agg #[.int .i64 0, .int .i64 0], .bool false]) ∧ Only (W.heap.size ≤ ·) W w') := by
            have := HLT.out
            subst hk0
            exact this
          clear HLT
          have HN : Hid (b = rightFrom (prev l (k + 1)) (l.drop (k + 1)) ∧ ∀ q, prev l (k + 1) = some q → may q = true) := ⟨by
            rw [HK.out.1, HT.out, ← HM.out, show prev l k = none by rw [hk0]; exact prev_zero l]; rfl, fun q h => by rw [prev_succ HX.out] at h; cases h; exact HM.out.symm⟩
          clear hk0
          go_wp2_with (first | (go_at_call 68; refine (HMC.out _).mono ?_; rintro e w1 ⟨rfl, ho1⟩; have HO1 := Lib.hid (on_new ((Only.refl _ wr).alloc (fun _ h => h) (.cells #[.int .i64 x1, .int .i64 x2] 54)) ho1); clear ho1) | (go_at_call 51; refine (HL0.out _ HO1.out).mono ?_; rintro e w2 ⟨rfl, ho2⟩; have HO2 := Lib.hid (on_new HO1.out ho2); clear ho2))
          go_quiet (fail)
          go_wp2
          go_roundw
          case rel => exact ⟨k + 1, by omega, by go_num, HN, (on_new HO.out (HO2.out.alloc (fun _ h => h) _)).drewN _⟩
          case measure => simp [intOf]; omega
        · obtain ⟨j, hj⟩ : ∃ j, k = j + 1 := ⟨k - 1, by omega⟩
          obtain ⟨q, hq⟩ : ∃ q, l[j]? = some q := ⟨_, List.getElem?_eq_getElem (by rw [HL.out]; omega)⟩
          have HQ : Hid (lastOf (l.take k) = q ∧ prev l k = some q) := by rw [hj]; exact ⟨lastOf_prev hq, prev_succ hq⟩
          have hqm := (may_iff q).1 (HK.out.2 q HQ.out.2)
          clear hj hq
          obtain ⟨q1, q2⟩ := q
          simp only at hqm
          have HL1 : Hid (∀ W : World, Only (wr.heap.size ≤ ·) wr W → Calls Tryz.prog 51 #[.slice (some ⟨g, off, none⟩) k c] W fun e w' => e = .returned (.tuple #[.agg #[.int .i64 q1, .int .i64 q2], .bool true]) ∧ Only (W.heap.size ≤ ·) W w') := by
            have := HLT.out
            rw [HQ.out.1, decide_eq_true hk0] at this
            exact this
          clear HLT
          have HE : Hid (∀ W : World, Calls Tryz.prog 52 #[.agg #[.int .i64 q1, .int .i64 q2]] W fun e w' => e = .returned (.int .i64 (q1 + q2)) ∧ Only (W.heap.size ≤ ·) W w') := fun W => end_c W q1 q2 (by omega) (by omega)
          have HG : Hid (gap (prev l k) (x1, x2) = decide (q1 + q2 < x1)) := by rw [HQ.out.2]; rfl
          clear hk0
          go_wp2_with (first | (go_at_call 68; refine (HMC.out _).mono ?_; rintro e w1 ⟨rfl, ho1⟩; have HO1 := Lib.hid (on_new ((Only.refl _ wr).alloc (fun _ h => h) (.cells #[.int .i64 x1, .int .i64 x2] 54)) ho1); have HB1 := Lib.hid (HB0.out.later ho1); clear ho1) | (go_at_call 51; refine (HL1.out _ HO1.out).mono ?_; rintro e w2 ⟨rfl, ho2⟩; have HO2 := Lib.hid (on_new HO1.out ho2); have HB2 := Lib.hid ((HB1.out.later ho2).alloc (.cells #[.int .i64 q1, .int .i64 q2] 54)); have HC2 := Lib.hid (Blk.new w2 54 [.int .i64 q1, .int .i64 q2]); clear ho2))
          obtain ⟨wz, hz⟩ : ∃ wz, wz = w2.alloc (.cells #[.int .i64 q1, .int .i64 q2] 54) := ⟨_, rfl⟩
          have HO3 : Hid (Only (w.heap.size ≤ ·) w wz) := by rw [hz]; exact on_new HO.out (HO2.out.alloc (fun _ h => h) _)
          have HKEEP : Hid (∀ W : World, Only (wz.heap.size ≤ ·) wz W → W.cell? ⟨wr.heap.size, 0, none⟩ = some (.int .i64 x1) ∧ W.cell? ⟨w2.heap.size, 0, none⟩ = some (.int .i64 q1) ∧ W.cell? ⟨w2.heap.size, 0 + 1, none⟩ = some (.int .i64 q2)) := fun W hW => by
            rw [hz] at hW
            exact ⟨(HB2.out.later hW).cell 0, (HC2.out.later hW).cell 0, (HC2.out.later hW).cell 1⟩
          rw [← hz]
          clear hz HB0 HB1 HB2 HC2
          go_region_held3 (fun w' => Only (wz.heap.size ≤ ·) wz w' ∧ w'.cell? ⟨wr.heap.size, 0, none⟩ = some (.int .i64 x1) ∧ w'.cell? ⟨w2.heap.size, 0, none⟩ = some (.int .i64 q1) ∧ w'.cell? ⟨w2.heap.size, 0 + 1, none⟩ = some (.int .i64 q2)) (first | assumption | exact ⟨(Only.refl _ wz).drew, HKEEP.out _ (Only.refl _ wz).drew⟩ | exact ⟨hO3, HKEEP.out _ hO3⟩) (first | (go_at_call 52; refine (HE.out _).mono ?_; rintro e w3 ⟨rfl, ho3⟩; have hO3 : Only (wz.heap.size ≤ ·) wz w3 := Only.trans (And.left (by assumption)) (ho3.mono fun k h => Nat.le_trans (Only.size (And.left (by assumption))) h)))
          all_goals
            have HO4 : Hid (Only (w.heap.size ≤ ·) w w3) := on_new HO3.out (And.left (by assumption))
            clear hO3 ho3
            by_cases hgap : q1 + q2 < x1
            · have hng : ¬ (x1 ≤ q1 + q2) := by omega
              have HN : Hid (b = rightFrom (prev l (k + 1)) (l.drop (k + 1)) ∧ ∀ q, prev l (k + 1) = some q → may q = true) := ⟨by
                rw [HK.out.1, HT.out, ← HM.out, HG.out, decide_eq_true hgap]; rfl, fun q h => by rw [prev_succ HX.out] at h; cases h; exact HM.out.symm⟩
              go_wp2
              go_roundw
              case rel => exact ⟨k + 1, by omega, by go_num, HN, HO4.out⟩
              case measure => simp [intOf]; omega
            · have hng : x1 ≤ q1 + q2 := by omega
              obtain rfl : b = false := by rw [HK.out.1, HT.out, ← HM.out, HG.out, decide_eq_false hgap]; rfl
              go_wp2
              go_ret
              exact ⟨rfl, HO4.out⟩
    · obtain rfl : k = n := by omega
      have hkm : ¬ (k : Int) < (k : Int) := by omega
      obtain rfl : b = true := by rw [HK.out.1, List.drop_eq_nil_of_le (by rw [HL.out]; exact Nat.le_refl _)]; cases prev l k <;> rfl
      go_wp2
      go_ret
      exact ⟨rfl, HO.out⟩

theorem known_c (w : World) (A : Option Addr) (n c : Nat) (l : List R) (h : Rs w A l) (hl : l.length = n) (hr : ∀ x ∈ l, I64 x) (hn : n ≤ c) (hc : c ≤ 9223372036854775807) :
    Calls Tryz.prog 46 #[.slice A n c] w (Told w (if right l = true then .slice A n c else .slice none 0 0)) := by
  have H := Right_c w A n c l h hl hr hn hc
  obtain ⟨b, hb⟩ : ∃ b, b = right l := ⟨_, rfl⟩
  rw [← hb] at H ⊢
  have HR := Lib.hid H
  clear H h hl hr hb
  cases b
  · go_enter Tryz.func46, Tryz.ntmps46
    go_wp2_with (go_at_call 66; refine HR.out.mono ?_; rintro e w1 ⟨rfl, ho1⟩; have HO1 := Lib.hid ho1; clear ho1)
    go_ret
    exact ⟨rfl, HO1.out⟩
  · go_enter Tryz.func46, Tryz.ntmps46
    go_wp2_with (go_at_call 66; refine HR.out.mono ?_; rintro e w1 ⟨rfl, ho1⟩; have HO1 := Lib.hid ho1; clear ho1)
    go_ret
    exact ⟨rfl, HO1.out⟩

end Go.Proofs.YtmadlckladohbaaGreat
