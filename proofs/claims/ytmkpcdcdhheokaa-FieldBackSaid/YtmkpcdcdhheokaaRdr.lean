/-
  A reader's Get, Err, Left.
-/
import Derived.Test.YtmkpcdcdhheokaaNumb
set_option linter.unusedVariables false
namespace Go.Proofs.Ytmkpcdcdhheokaa
open Go.RowKit

abbrev Drawn (w w' : World) : Prop := Only (fun _ => False) w w'
theorem drawn_of {w w' : World} (h : ∃ m, w' = w.drewN m) : Drawn w w' := by
  obtain ⟨m, rfl⟩ := h
  exact (Only.refl _ w).drewN m
theorem Drawn.refl (w : World) : Drawn w w := Only.refl _ w
theorem Drawn.any {w w' : World} {F : Nat → Prop} (h : Drawn w w') : Only F w w' := h.mono fun _ h => h.elim
theorem Holds.drawn {w w' : World} {p g : Nat} {T : TypeId} {c : Cur} (h : Holds w p g T c) (hd : Drawn w w') : Holds w' p g T c := h.only hd fun _ _ _ h => h

/-- What Get does. -/
def Gets (w : World) (p g : Nat) (c : Cur) (k : Int) (e : Ending) (w' : World) : Prop := e = .returned (.int .i64 (c.val k)) ∧ Holds w' p g 55 (c.get k) ∧ Only (· = p) w w'

theorem may_no {c : Cur} {k : Int} (h : c.may k = false) : c.val k = 0 ∧ c.get k = c.spoil := ⟨by rw [Cur.val, h]; rfl, by rw [Cur.get, h]; rfl⟩
theorem may_yes {c : Cur} {k : Int} (h : c.may k = true) : c.val k = num (c.got k) ∧ c.get k = c.take k := ⟨by rw [Cur.val, if_pos h], by rw [Cur.get, if_pos h]⟩

set_option maxRecDepth 100000 in
set_option maxHeartbeats 1600000 in
theorem Get_c (w : World) (p g : Nat) (c : Cur) (h : Holds w p g 55 c) (k : Int) :
    Calls Try.prog 22 #[.pointer (some ⟨p, 0, none⟩), .int .i64 k] w (Gets w p g c k) := by
  have HL := Lib.hid h
  by_cases hw : wide k = true
  · have HI : Hid (∀ W : World, Calls Try.prog 33 #[.int .i64 k] W fun e w' => e = .returned (.bool true) ∧ W = w') := fun W => (isWidth_c W k).mono fun e w' ⟨h, h'⟩ => ⟨by rw [h, hw], h'⟩
    by_cases hn : c.has k = true
    · have HH : Hid (∀ W : World, Holds W p g 55 c → Calls Try.prog 34 #[.pointer (some ⟨p, 0, none⟩), .int .i64 k] W fun e w' => e = .returned (.bool true) ∧ Drawn W w') := fun W hW => (has_c W p g _ c hW k).mono fun e w' ⟨h, h'⟩ => ⟨by rw [h, hn], drawn_of h'⟩
      obtain ⟨hsp, m, rfl, hk⟩ := Cur.has_parts hn
      have m1 : 1 ≤ m ∧ m ≤ 8 := by simp only [wide, Bool.and_eq_true, decide_eq_true_eq] at hw; omega
      obtain ⟨xs, hxs⟩ : ∃ xs, xs = c.got m := ⟨_, rfl⟩
      have hgot : xs = (c.b.drop c.at_).take m := by rw [hxs, Cur.got, if_pos hn, Int.toNat_natCast]
      have hlx : xs.length = m := by rw [hxs, Cur.got_length hn, Int.toNat_natCast]
      have hmay : c.may m = decide (num xs < 9223372036854775808) := by rw [Cur.may, hw, hn, hxs]; rfl
      have hnum : num xs < 18446744073709551616 := by
        have h1 := num_lt xs
        rw [hlx] at h1
        have h2 := pow8 m m1.2
        omega
      obtain ⟨A, cap, rest, hin⟩ := h
      have HIN := Lib.hid hin
      have hle := hin.le
      have hlen := hin.wf.len
      obtain ⟨hgp, rest', hblk⟩ : A = some ⟨g, 0, none⟩ ∧ ∃ rest', Blk w g 5 (cb c.b ++ rest') := by
        rcases hin.src with ⟨_, h2, _⟩ | ⟨h1, _, h3⟩
        · rw [h2] at hk; simp at hk; omega
        · exact ⟨h1, rest, h3⟩
      subst hgp
      have HTX : Hid (∀ W, Drawn w W → Txt W (some ⟨g, c.at_, none⟩) m xs) := fun W hW => by
        rw [hgot]
        exact Txt.blk (hblk.only hW id) c.at_ m hk (fun _ => rfl)
      obtain ⟨a, hae⟩ : ∃ a, a = c.at_ := ⟨_, rfl⟩
      obtain ⟨N, hne⟩ : ∃ N, N = c.b.length := ⟨_, rfl⟩
      have HC : Hid (∀ W, Drawn w W → W.cell? ⟨p, 0, none⟩ = some (.slice (some ⟨g, 0, none⟩) N cap) ∧ W.cell? ⟨p, 1, none⟩ = some (.int .i64 a)) := fun W hW => by
        rw [hne, hae]
        have h := hin.only (F := fun _ => False) hW id (fun _ => id)
        exact ⟨h.blk.cell 0, h.blk.cell 1⟩
      rw [← hae] at HTX
      rw [← hne] at hle hlen hk
      rw [← hae] at hk
      have b0 : (0 : Int) ≤ (a : Int) := by omega
      have b1 : (a : Int) ≤ (a : Int) + m := by omega
      have b2 : (a : Int) + m ≤ (cap : Int) := by omega
      have b3 : ¬ (cap = a) := by omega
      have b4 : (a : Int) + m ≤ 2199023255552 := by omega
      have b5 : (0 : Int) ≤ (a : Int) + m := by omega
      have bt : ((a : Int) + m).toNat = a + m := by omega
      have bs : a + m - a = m := by omega
      have bw : IntKind.i64.wrap ((a : Int) + m) = (a : Int) + m := IntWalk.i64_in _ (by omega)
      by_cases hbig : num xs < 9223372036854775808
      · have HM : Hid (c.val m = num xs ∧ c.get m = c.take m) := by
          have := may_yes (c := c) (k := m) (by rw [hmay, decide_eq_true hbig])
          rw [← hxs] at this
          exact this
        have HNu : Hid (∀ W, Drawn w W → Calls Try.prog 35 #[.slice (some ⟨g, a, none⟩) m (cap - a)] W fun e w' => e = .returned (.int .i64 (num xs : Nat)) ∧ w' = W) := fun W hW =>
          (number_c W _ m (cap - a) xs (HTX.out W hW) m1.2).mono fun e w' ⟨h, h'⟩ => ⟨by rw [h, w64, if_pos hbig], h'.symm⟩
        generalize hX : num xs = X at HM HNu hbig
        have hX0 : ¬ ((X : Int) < 0) := by omega
        clear hin hxs hgot hlx hmay hnum hblk hae hne hk hw hn hsp HIN HTX hX hle hlen m1 hbig
        go_enter Try.func22, Try.ntmps22
        go_wp2_with (first | (go_at_call 33; refine (HI.out _).mono ?_; rintro e w' ⟨rfl, rfl⟩) | (go_at_call 34; refine (HH.out _ HL.out).mono ?_; rintro e w1 ⟨rfl, hd⟩; have HD := Lib.hid hd; have h0 := (HC.out w1 hd).1; have h1 := (HC.out w1 hd).2; clear hd))
        go_quiet ((go_at_call 35; exact Calls.quiet_of_same (HNu.out _ (HD.out.drewN _))))
        go_wp2_with (first | (go_at_call 15; refine (Skip_c _ p g _ c (HL.out.drawn (HD.out.drewN _)) _).mono ?_; rintro e w2 ⟨rfl, hh, ho⟩))
        go_ret
        rw [← HM.out.2] at hh
        exact ⟨by rw [HM.out.1]; rfl, hh, (Drawn.any (HD.out.drewN _)).trans ho⟩
      · have HM : Hid (c.val m = 0 ∧ c.get m = c.spoil) := may_no (by rw [hmay, decide_eq_false hbig])
        have HNu : Hid (∀ W, Drawn w W → Calls Try.prog 35 #[.slice (some ⟨g, a, none⟩) m (cap - a)] W fun e w' => e = .returned (.int .i64 ((num xs : Int) - 18446744073709551616)) ∧ w' = W) := fun W hW =>
          (number_c W _ m (cap - a) xs (HTX.out W hW) m1.2).mono fun e w' ⟨h, h'⟩ => ⟨by rw [h, w64, if_neg hbig], h'.symm⟩
        obtain ⟨X, hX⟩ : ∃ X : Int, X = (num xs : Int) - 18446744073709551616 := ⟨_, rfl⟩
        have hX0 : X < 0 := by omega
        rw [← hX] at HNu
        clear hin hxs hgot hlx hmay hnum hblk hae hne hk hw hn hsp HIN HTX hX hle hlen m1 hbig
        go_enter Try.func22, Try.ntmps22
        go_wp2_with (first | (go_at_call 33; refine (HI.out _).mono ?_; rintro e w' ⟨rfl, rfl⟩) | (go_at_call 34; refine (HH.out _ HL.out).mono ?_; rintro e w1 ⟨rfl, hd⟩; have HD := Lib.hid hd; have h0 := (HC.out w1 hd).1; have h1 := (HC.out w1 hd).2; clear hd))
        go_quiet ((go_at_call 35; exact Calls.quiet_of_same (HNu.out _ (HD.out.drewN _))))
        go_wp2_with (first | (go_at_call 27; refine (spoil_c _ p g _ c (HL.out.drawn (HD.out.drewN _))).mono ?_; rintro e w2 ⟨rfl, hh, ho⟩))
        go_ret
        rw [← HM.out.2] at hh
        exact ⟨by rw [HM.out.1]; rfl, hh, (Drawn.any (HD.out.drewN _)).trans ho⟩
    · have HH : Hid (∀ W : World, Holds W p g 55 c → Calls Try.prog 34 #[.pointer (some ⟨p, 0, none⟩), .int .i64 k] W fun e w' => e = .returned (.bool false) ∧ Drawn W w') := fun W hW => (has_c W p g _ c hW k).mono fun e w' ⟨h, h'⟩ => ⟨by rw [h]; simpa using hn, drawn_of h'⟩
      have HM : Hid (c.val k = 0 ∧ c.get k = c.spoil) := may_no (by simp only [Bool.not_eq_true] at hn; rw [Cur.may, hn]; simp)
      clear h hw hn
      go_enter Try.func22, Try.ntmps22
      go_wp2_with (first | (go_at_call 33; refine (HI.out _).mono ?_; rintro e w' ⟨rfl, rfl⟩) | (go_at_call 34; refine (HH.out _ HL.out).mono ?_; rintro e w1 ⟨rfl, hd⟩; have HD := Lib.hid hd; clear hd) | (go_at_call 27; refine (spoil_c _ p g _ c (HL.out.drawn HD.out)).mono ?_; rintro e w2 ⟨rfl, hh, ho⟩))
      go_ret
      rw [← HM.out.2] at hh
      exact ⟨by rw [HM.out.1]; rfl, hh, HD.out.any.trans ho⟩
  · have HI : Hid (∀ W : World, Calls Try.prog 33 #[.int .i64 k] W fun e w' => e = .returned (.bool false) ∧ W = w') := fun W => (isWidth_c W k).mono fun e w' ⟨h, h'⟩ => ⟨by rw [h]; simpa using hw, h'⟩
    have HM : Hid (c.val k = 0 ∧ c.get k = c.spoil) := may_no (by simp only [Bool.not_eq_true] at hw; rw [Cur.may, hw]; rfl)
    clear h hw
    go_enter Try.func22, Try.ntmps22
    go_wp2_with (first | (go_at_call 33; refine (HI.out _).mono ?_; rintro e w' ⟨rfl, rfl⟩) | (go_at_call 27; refine (spoil_c _ p g _ c HL.out).mono ?_; rintro e w2 ⟨rfl, hh, ho⟩))
    go_ret
    rw [← HM.out.2] at hh
    exact ⟨by rw [HM.out.1]; rfl, hh, ho⟩

theorem Err_c (w : World) (p g : Nat) (c : Cur) (h : Holds w p g 55 c) :
    Calls Try.prog 24 #[.pointer (some ⟨p, 0, none⟩)] w fun e w' => e = .returned (.int .i64 c.err) ∧ w = w' := by
  have HL := Lib.hid h
  clear h
  go_enter Try.func24, Try.ntmps24
  go_wp2_with (first | (go_at_call 31; refine (err_c _ p g _ c HL.out).mono ?_; rintro e w1 ⟨rfl, rfl⟩))
  go_ret
  exact ⟨rfl, rfl⟩

theorem Left_c (w : World) (p g : Nat) (c : Cur) (h : Holds w p g 55 c) :
    Calls Try.prog 26 #[.pointer (some ⟨p, 0, none⟩)] w fun e w' => e = .returned (.int .i64 c.left) ∧ Drawn w w' := by
  have HL := Lib.hid h
  clear h
  go_enter Try.func26, Try.ntmps26
  go_wp2_with (first | (go_at_call 36; refine (left_c _ p g _ c HL.out).mono ?_; rintro e w1 ⟨rfl, hd⟩))
  go_ret
  exact ⟨rfl, drawn_of hd⟩
end Go.Proofs.Ytmkpcdcdhheokaa
