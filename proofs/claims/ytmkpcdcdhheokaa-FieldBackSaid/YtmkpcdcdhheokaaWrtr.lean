/-
  A writer's Put; what its Bytes wants.
-/
import Derived.Test.YtmkpcdcdhheokaaNews
import Derived.Test.YtmkpcdcdhheokaaFits
import Derived.Laws.CopyOwn
import Derived.Outline
set_option linter.unusedVariables false
namespace Go.Proofs.Ytmkpcdcdhheokaa
open Go.RowKit

theorem over_snoc {α : Type} (cs : List α) (o : Nat) (vs : List α) (v : α) (h : o + vs.length < cs.length) : over cs o (vs ++ [v]) = (over cs o vs).set (o + vs.length) v := by
  apply List.ext_getElem?
  intro i
  rw [over_get _ _ _ (by simp; omega), List.getElem?_set, over_get _ _ _ (by omega), over_length _ _ _ (by omega)]
  simp only [List.length_append, List.length_singleton, List.getElem?_append]
  by_cases h1 : o + vs.length = i
  · subst h1
    rw [if_pos (by omega), if_neg (by omega), if_pos rfl, if_pos (by omega), show o + vs.length - o - vs.length = 0 by omega]
    rfl
  · rw [if_neg h1]
    by_cases h2 : o ≤ i ∧ i < o + vs.length
    · rw [if_pos (by omega), if_pos h2, if_pos (by omega)]
    · rw [if_neg (by omega), if_neg h2]
theorem rest_eq {w : World} {g : Nat} {t : TypeId} {xs a b : List Value} (h : Blk w g t (xs ++ a)) (h' : Blk w g t (xs ++ b)) : a = b := by
  unfold Blk at h h'
  rw [h] at h'
  injection h' with h1
  injection h1 with h1
  have := congrArg Array.toList h1
  simpa using this
theorem byte_val (a j : Nat) : (a : Int) / 2 ^ (8 * j) % 256 = ((UInt8.ofNat (a / 256 ^ j % 256)).toNat : Int) := by
  have h : (2 : Int) ^ (8 * j) = ((256 ^ j : Nat) : Int) := by
    rw [Int.natCast_pow, Int.pow_mul]
    rfl
  rw [h, UInt8.toNat_ofNat']
  omega
theorem over_rest {α : Type} (cs ds : List α) (o : Nat) (vs : List α) (h : o + vs.length ≤ cs.length) : over (cs ++ ds) o vs = over cs o vs ++ ds := over_append cs ds o vs h

/-- The cursor behind a write of all of xs. -/
theorem write_eq {c : Cur} {xs : Bytes} (h : c.has xs.length = true) : c.write xs = { c with b := over c.b c.at_ xs, at_ := c.at_ + xs.length } := by rw [Cur.write, if_pos h]
theorem write_no {c : Cur} {xs : Bytes} (h : c.has xs.length = false) : c.write xs = c.spoil := by rw [Cur.write, h]; rfl

/-- Some bytes laid over those of a cursor. -/
theorem Holds.laid {w w' : World} {p g : Nat} {T : TypeId} {c : Cur} (h : Holds w p g T c) {ys : Bytes} (hl : ys.length = c.b.length) (hp : w'.heap[p]? = w.heap[p]?) (hg : ∀ rest, Blk w g 5 (cb c.b ++ rest) → g ≠ p → Blk w' g 5 (cb ys ++ rest)) : Holds w' p g T { c with b := ys } := by
  obtain ⟨A, cap, rest, h⟩ := h
  refine ⟨A, cap, rest, ⟨by show _ ≤ _; rw [hl]; exact h.wf.at_, by show _ ≤ _; rw [hl]; exact h.wf.len⟩, ?_, ?_, by show _ ≤ _; rw [hl]; exact h.le, h.max⟩
  · show Blk w' p T [.slice A ys.length cap, .int .i64 c.at_, .bool c.sp]
    rw [hl]
    exact hp.trans h.blk
  · rcases h.src with ⟨h1, h2, h3⟩ | ⟨h1, h2, h3⟩
    · refine .inl ⟨h1, ?_, h3⟩
      rw [h2] at hl
      exact List.eq_nil_of_length_eq_zero hl
    · exact .inr ⟨h1, h2, hg rest h3 h2⟩

theorem after_take {w : World} {p g : Nat} {T : TypeId} {c : Cur} {n : Int} (h : Holds w p g T (c.take n)) (hb : 0 < c.b.length) : g ≠ p ∧ ∃ rest, Blk w g 5 (cb c.b ++ rest) := by
  have := h.pos (by rw [Cur.take_b]; exact hb)
  rwa [Cur.take_b] at this
theorem after_src {w w' : World} {p g n : Nat} {ad : Addr} {xs : Bytes} (h : Txt w (some ad) n xs) (ho : Only (· = p) w w') (hf : ¬ Foot p g ad.block) : ∀ j u, (cb xs)[j]? = some u → w'.cell? (ad.add j) = some u :=
  (h.only ho (fun ad' _ e => by injection e with e; subst e; exact fun h => hf (.inl h))).src ad rfl

set_option maxRecDepth 100000 in
set_option maxHeartbeats 1600000 in
theorem Put_c (w : World) (p g : Nat) (c : Cur) (h : Holds w p g 41 c) (n k : Int) (h1 : -9223372036854775808 ≤ n) (h2 : n ≤ 9223372036854775807) :
    Calls Try.prog 11 #[.pointer (some ⟨p, 0, none⟩), .int .i64 n, .int .i64 k] w fun e w' => e = .returned (.tuple #[]) ∧ Holds w' p g 41 (c.put n k) ∧ Only (Foot p g) w w' := by
  have HL := Lib.hid h
  clear h
  by_cases hfit : fits n k = true
  · have HC : Hid (∀ W : World, Calls Try.prog 25 #[.int .i64 n, .int .i64 k] W fun e w' => e = .returned (.bool true) ∧ W = w') := fun W => (Fits_c W n k h1 h2).mono fun e w' ⟨h, h'⟩ => ⟨by rw [h, hfit], h'⟩
    have HP : Hid (c.put n k = c.write (le n.toNat k.toNat)) := by show _ = _; rw [Cur.put, if_pos hfit]
    obtain ⟨a, m, rfl, rfl, m1, m8, ha⟩ := fits_parts hfit
    rw [Int.toNat_natCast, Int.toNat_natCast] at HP
    clear hfit
    by_cases hn : c.has m = true
    · obtain ⟨hsp, m', hnn, hk⟩ := Cur.has_parts hn
      obtain rfl : m = m' := by omega
      have HG : Hid ((c.got m).length = m) := by show _ = _; rw [Cur.got_length hn, Int.toNat_natCast]
      have HT : Hid (c.take m = { c with at_ := c.at_ + m }) := by show _ = _; rw [Cur.take, if_pos hn, Int.toNat_natCast]
      have HW : Hid (c.write (le a m) = { c with b := over c.b c.at_ (le a m), at_ := c.at_ + m }) := by
        show _ = _
        rw [write_eq (by rw [le_length]; exact hn), le_length]
      have Hk := Lib.hid hk
      have H0 : Hid (0 < m) := m1
      clear hn hsp hnn hk
      go_enter Try.func11, Try.ntmps11
      go_wp2_with (first | (go_at_call 25; refine (HC.out _).mono ?_; rintro e w' ⟨rfl, rfl⟩) | (go_at_call 28; refine (take_c _ p g _ c HL.out _).mono ?_; rintro e w1 ⟨v, rfl, ⟨A', c', hv, hkc, hcm, hAn, hAs⟩, hh, ho⟩; rw [HG.out] at hv hAs; have hA'' := hAs H0.out; subst hA''; subst hv; have HH := Lib.hid hh; have HO := Lib.hid ho; clear hh ho hkc hcm hAn hAs))
      obtain ⟨hgp, rest, hblk⟩ := HH.out.pos (by have := Hk.out; have := H0.out; rw [Cur.take_b]; omega)
      rw [Cur.take_b] at hblk
      have HB := Lib.hid hblk
      have Hgp : Hid (g ≠ p) := hgp
      clear hblk hgp
      go_loopw [23] (fun i wr => ∃ j : Nat, j ≤ m ∧ i = .int .i64 j ∧ Hid (Blk wr g 5 (cb (over c.b c.at_ (le a j)) ++ rest) ∧ Only (· = g) w1 wr)) (fun i _ => m - (intOf i).toNat)
      case atStart => exact ⟨0, Nat.zero_le _, rfl, by rw [show le a 0 = [] from rfl, over_nil]; exact HB.out, Only.refl _ _⟩
      case round =>
        obtain ⟨j, hj, rfl, hr⟩ := hrel
        by_cases hlt : j < m
        · have i1 : (j : Int) < (m : Int) := by omega
          have i2 : (j : Int) ≤ 7 := by omega
          have hin : c.at_ + j < (over c.b c.at_ (le a j)).length := by
            have := Hk.out
            rw [over_length _ _ _ (by rw [le_length]; omega)]
            omega
          obtain ⟨u, hu⟩ : ∃ u, wr.cell? ⟨g, c.at_ + j, none⟩ = some u := by
            refine ⟨_, (hr.out.1.cell _).trans (List.getElem?_eq_getElem ?_)⟩
            simp [cb_length]
            omega
          have hfz : wr.frozen? ⟨g, c.at_ + j, none⟩ = false := hr.out.1.frozen _
          have HS : Hid (Blk (wr.setCell ⟨g, c.at_ + j, none⟩ (.int .u8 ((a : Int) / 2 ^ (8 * j) % 256))) g 5 (cb (over c.b c.at_ (le a (j + 1))) ++ rest)) := by
            show Blk _ _ _ _
            rw [le_snoc, over_snoc _ _ _ _ (by have := Hk.out; rw [le_length]; omega), le_length]
            have h := hr.out.1.set_ (c.at_ + j) (.int .u8 ((a : Int) / 2 ^ (8 * j) % 256))
            rw [List.set_append_left _ _ (by rw [cb_length]; exact hin), byte_val] at h
            rw [byte_val]
            simpa [cb, List.map_set] using h
          clear hin
          go_wp2
          refine ⟨⟨j + 1, by omega, by go_num, HS.out, hr.out.2.setCell rfl _⟩, ?_⟩
          simp [intOf]
          omega
        · obtain rfl : j = m := by omega
          have i1 : ¬ (j : Int) < (j : Int) := by omega
          go_wp2
          go_end0
          refine ⟨rfl, ?_, (HO.out.mono fun k h => .inl h).trans (hr.out.2.mono fun k h => .inr h)⟩
          have hh := HH.out
          rw [HT.out] at hh
          rw [HP.out, HW.out]
          have hk := Hk.out
          refine hh.laid (c := { c with at_ := c.at_ + j }) (ys := over c.b c.at_ (le a j)) (over_length _ _ _ (by rw [le_length]; omega)) (hr.out.2.block p fun e => Hgp.out e.symm) fun rest' hb _ => ?_
          obtain rfl := rest_eq hb HB.out
          exact hr.out.1
    · have hn' : c.has m = false := by simpa using hn
      have HG : Hid ((c.got m).length = 0) := by show _ = _; rw [Cur.got_no hn']; rfl
      have HT : Hid (c.take m = c.spoil) := by show _ = _; rw [Cur.take, hn']; rfl
      have HW : Hid (c.put a m = c.spoil) := by show _ = _; rw [HP.out]; exact write_no (by rw [le_length]; exact hn')
      clear hn hn'
      go_enter Try.func11, Try.ntmps11
      go_wp2_with (first | (go_at_call 25; refine (HC.out _).mono ?_; rintro e w' ⟨rfl, rfl⟩) | (go_at_call 28; refine (take_c _ p g _ c HL.out _).mono ?_; rintro e w1 ⟨v, rfl, ⟨A', c', hv, hkc, hcm, hAn, hAs⟩, hh, ho⟩; rw [HG.out] at hv; subst hv; have HH := Lib.hid hh; have HO := Lib.hid ho; clear hh ho hkc hcm hAn hAs))
      go_loopw [23] (fun i wr => i = .int .i64 0 ∧ wr = w1) (fun i _ => 0)
      case atStart => exact ⟨rfl, rfl⟩
      case round =>
        obtain ⟨rfl, rfl⟩ := hrel
        go_wp2
        go_end0
        refine ⟨rfl, ?_, HO.out.mono fun k h => .inl h⟩
        rw [HW.out, ← HT.out]
        exact HH.out
  · have HC : Hid (∀ W : World, Calls Try.prog 25 #[.int .i64 n, .int .i64 k] W fun e w' => e = .returned (.bool false) ∧ W = w') := fun W => (Fits_c W n k h1 h2).mono fun e w' ⟨h, h'⟩ => ⟨by rw [h]; simpa using hfit, h'⟩
    have HP : Hid (c.put n k = c.spoil) := by show _ = _; rw [Cur.put, if_neg hfit]
    clear hfit
    go_enter Try.func11, Try.ntmps11
    go_wp2_with (first | (go_at_call 25; refine (HC.out _).mono ?_; rintro e w' ⟨rfl, rfl⟩) | (go_at_call 27; refine (spoil_c _ p g _ c HL.out).mono ?_; rintro e w1 ⟨rfl, hh, ho⟩; have HH := Lib.hid hh; have HO := Lib.hid ho; clear hh ho))
    refine bodyPost_ret (results_none rfl _ _ _) rfl ?_
    refine ⟨rfl, ?_, HO.out.mono fun k h => .inl h⟩
    rw [HP.out]
    exact HH.out
end Go.Proofs.Ytmkpcdcdhheokaa
