/-
  Sealed; bytes.Equal.
-/
import Derived.Test.YtdgcplmekkancaaEqar
import Derived.Laws.BytesArg
import Derived.Laws.Cover3
import Derived.Deep.QuietTactic
import Derived.BigQuiet
set_option linter.unusedVariables false
namespace Go.Proofs.Ytdgcplmekkancaa
open Go.RowKit

theorem foldl_push (l : Bytes) : ∀ s : ByteArray, (l.map fun b => (b.toNat : Int)).foldl (fun r n => r.push (UInt8.ofNat n.toNat)) s = ⟨s.data ++ l.toArray⟩ := by
  intro s
  rw [foldl_push_bytes, List.map_map]
  congr 2
  rw [show (fun n : Int => UInt8.ofNat n.toNat) ∘ (fun b : UInt8 => (b.toNat : Int)) = id from funext fun b => by simp]
  simp

theorem convert_txt (w : World) (A : Option Addr) (n c : Nat) (xs : Bytes) (h : Txt w A n xs) :
    (convert 22 9 (.slice A n c)).run Try.prog w = .ok (.string ⟨xs.toArray⟩) w := by
  rw [run_convert_bytes_string w 22 9 5 _ n c Try.underlying22 Try.underlying5 Try.underlying9]
  rcases Nat.eq_zero_or_pos n with h0 | h0
  · subst h0
    obtain rfl : xs = [] := List.eq_nil_of_length_eq_zero h.1
    cases A <;> simp [Conv.bytesToString, loadCells]
    all_goals rfl
  · obtain ⟨ad, rfl, hc⟩ := h.2 h0
    have hl : (loadCells ad n).run Try.prog w = .ok ((xs.map fun b => (b.toNat : Int)).map (Value.int .u8)).toArray w := by
      have := run_loadCells_list (P := Try.prog) w ad (cb xs) hc
      rw [cb_length, h.1] at this
      rw [this]
      simp [cb]
    rw [run_bytesToString w ad n c _ hl, foldl_push]
    simp [ByteArray.empty, ByteArray.emptyWithCapacity]
    rfl

theorem Equal_c (w : World) (A B : Option Addr) (n c m c' : Nat) (xs ys : Bytes) (h : Txt w A n xs) (h' : Txt w B m ys) :
    Calls Try.prog 13 #[.slice A n c, .slice B m c'] w fun e w' => e = .returned (.bool (decide (xs = ys))) ∧ w = w' := by
  have k1 := convert_txt w A n c xs h
  have k2 := convert_txt w B m c' ys h'
  clear h h'
  go_enter Try.func13, Try.ntmps13
  go_wp2
  go_ret
  refine ⟨?_, rfl⟩
  congr 2
  by_cases e : xs = ys
  · subst e; simp
  · simp [e]

/-- A row of one's own, as bytes that can be read. -/
theorem txt_of_own {w : World} {B n : Nat} {v : Value} {xs : Bytes} (h : w.ownsRow B 5 1 v n (cb xs)) : ∃ A c, v = .slice A n c ∧ Txt w A n xs ∧ (A = none → n = 0 ∧ c = 0) ∧ n ≤ c ∧ c ≤ maxLen ∧ (∀ ad, A = some ad → B ≤ ad.block ∧ ad.block < w.heap.size) := by
  have hl : xs.length = n := by have := h.1; rwa [cb_length, Nat.mul_one] at this
  rcases h.2 with ⟨rfl, rfl⟩ | ⟨g, cap, cur, rfl, hb, hg, hc, hm, _, _⟩
  · exact ⟨none, 0, rfl, ⟨hl, fun h => absurd h (by decide)⟩, fun _ => ⟨rfl, rfl⟩, Nat.le_refl _, Nat.zero_le _, fun ad e => by cases e⟩
  · refine ⟨some ⟨g, 0, none⟩, cap, rfl, ⟨hl, fun _ => ⟨_, rfl, ?_⟩⟩, (fun e => by cases e), hc, hm, fun ad e => ?_⟩
    · exact h.cells (g := g) rfl
    · cases e
      exact ⟨hb, (Array.getElem?_eq_some_iff.1 hg).1⟩

def isSealed (xs : Bytes) (at_ : Int) : Bool := room xs.length at_ && decide (le4 (sum (oth xs at_.toNat)) = (xs.drop at_.toNat).take 4)

theorem u8_beq (x y : UInt8) : (((y.toNat : Nat) : Int) == ((x.toNat : Nat) : Int)) = decide (y = x) := by
  by_cases h : y = x
  · subst h; simp
  · have : ¬ (((y.toNat : Nat) : Int) = ((x.toNat : Nat) : Int)) := fun e => h (UInt8.toNat_inj.1 (by exact_mod_cast e))
    simp [h, this]
theorem four_eq (y0 y1 y2 y3 x0 x1 x2 x3 : UInt8) : decide ([y0, y1, y2, y3] = [x0, x1, x2, x3]) = (((y0.toNat : Nat) : Int) == ((x0.toNat : Nat) : Int) && (((y1.toNat : Nat) : Int) == ((x1.toNat : Nat) : Int) && (((y2.toNat : Nat) : Int) == ((x2.toNat : Nat) : Int) && ((y3.toNat : Nat) : Int) == ((x3.toNat : Nat) : Int)))) := by
  rw [u8_beq, u8_beq, u8_beq, u8_beq]
  simp

set_option maxRecDepth 100000 in
set_option maxHeartbeats 1600000 in
theorem Sealed_c (w : World) (A : Option Addr) (n c : Nat) (xs : Bytes) (ht : Txt w A n xs) (hA : A = none → n = 0 ∧ c = 0) (hn : n ≤ 1099511627776) (hc : n ≤ c) (hcm : c ≤ 9223372036854775807) (at_ : Int) (h1 : -9223372036854775808 ≤ at_) (h2 : at_ ≤ 9223372036854775807) :
    Calls Try.prog 15 #[.slice A n c, .int .i64 at_] w fun e w' => e = .returned (.bool (isSealed xs at_)) ∧ Only (w.heap.size ≤ ·) w w' := by
  have hl := ht.1
  by_cases hr : room n at_ = true
  · have E : Hid (isSealed xs at_ = decide (le4 (sum (oth xs at_.toNat)) = (xs.drop at_.toNat).take 4)) := by show _ = _; unfold isSealed; rw [hl, hr]; rfl
    obtain ⟨a, rfl⟩ : ∃ a : Nat, at_ = (a : Int) := ⟨at_.toNat, by simp only [room, decide_eq_true_eq] at hr; omega⟩
    have ha : a + 4 ≤ n := by simp only [room, decide_eq_true_eq] at hr; omega
    obtain ⟨ad, rfl⟩ : ∃ ad, A = some ad := by
      cases A with
      | some ad => exact ⟨ad, rfl⟩
      | none => have := (hA rfl).1; omega
    obtain ⟨ad', e, hcell⟩ := ht.2 (by omega)
    cases e
    have HT := Lib.hid ht
    obtain ⟨x0, h0⟩ : ∃ x, xs[a]? = some x := ⟨_, List.getElem?_eq_getElem (by omega)⟩
    obtain ⟨x1, h1'⟩ : ∃ x, xs[a + 1]? = some x := ⟨_, List.getElem?_eq_getElem (by omega)⟩
    obtain ⟨x2, h2'⟩ : ∃ x, xs[a + 2]? = some x := ⟨_, List.getElem?_eq_getElem (by omega)⟩
    obtain ⟨x3, h3'⟩ : ∃ x, xs[a + 3]? = some x := ⟨_, List.getElem?_eq_getElem (by omega)⟩
    have c0 : w.cell? (ad.add a) = some (.int .u8 (x0.toNat : Nat)) := hcell a _ (by simp [cb, h0])
    have c1 : w.cell? ⟨(ad.add a).block, (ad.add a).off + 1, none⟩ = some (.int .u8 (x1.toNat : Nat)) := by rw [show (⟨(ad.add a).block, (ad.add a).off + 1, none⟩ : Addr) = (ad.add a).add 1 from rfl, add_add]; exact hcell (a + 1) _ (by simp [cb, h1'])
    have c2 : w.cell? ⟨(ad.add a).block, (ad.add a).off + 2, none⟩ = some (.int .u8 (x2.toNat : Nat)) := by rw [show (⟨(ad.add a).block, (ad.add a).off + 2, none⟩ : Addr) = (ad.add a).add 2 from rfl, add_add]; exact hcell (a + 2) _ (by simp [cb, h2'])
    have c3 : w.cell? ⟨(ad.add a).block, (ad.add a).off + 3, none⟩ = some (.int .u8 (x3.toNat : Nat)) := by rw [show (⟨(ad.add a).block, (ad.add a).off + 3, none⟩ : Addr) = (ad.add a).add 3 from rfl, add_add]; exact hcell (a + 3) _ (by simp [cb, h3'])
    have a0 : (0 : Int) ≤ (a : Int) := by omega
    have a1 : (a : Int) ≤ (n : Int) := by omega
    have a2 : (a : Int) ≤ (c : Int) := by omega
    have a4 : (a : Int) + 4 ≤ (c : Int) := by omega
    have a5 : (0 : Int) ≤ (a : Int) + 4 := by omega
    have a6 : (a : Int) ≤ (a : Int) + 4 := by omega
    have aw : IntKind.i64.wrap ((a : Int) + 4) = (a : Int) + 4 := IntWalk.i64_in _ (by omega)
    have an : ((a : Int) + 4).toNat = a + 4 := by omega
    have a7 : ¬ (c = a) := by omega
    have HY : Hid (xs.drop a = x0 :: x1 :: x2 :: x3 :: xs.drop (a + 4)) := by
      show _ = _
      rw [List.drop_eq_getElem_cons (by omega), List.drop_eq_getElem_cons (by omega : a + 1 < _), List.drop_eq_getElem_cons (by omega : a + 1 + 1 < _), List.drop_eq_getElem_cons (by omega : a + 1 + 1 + 1 < _)]
      rw [List.getElem?_eq_getElem (by omega), Option.some.injEq] at h0 h1' h2' h3'
      rw [← h0, ← h1', ← h2', ← h3']
    clear hA ht hl hcell h0 h1' h2' h3'
    obtain ⟨y0, y1, y2, y3, hy⟩ : ∃ y0 y1 y2 y3, le4 (sum (oth xs a)) = [y0, y1, y2, y3] := ⟨_, _, _, _, rfl⟩
    have HYE := Lib.hid hy
    clear hy
    have hyes : ∀ W : World, Calls Try.prog 19 #[.slice (some ad) n c, .int .i64 a] W fun e w' => e = .returned (.bool true) ∧ W = w' := fun W => (has_c W (some ad) n c (by omega) a h1 h2).mono fun e w' ⟨h, h'⟩ => ⟨by rw [h, hr], h'⟩
    have haro : ∀ W : World, Only (w.heap.size ≤ ·) w W → Calls Try.prog 20 #[.slice (some ad) n c, .int .i64 a] W fun e w' => e = .returned (.agg #[.int .u8 (y0.toNat : Nat), .int .u8 (y1.toNat : Nat), .int .u8 (y2.toNat : Nat), .int .u8 (y3.toNat : Nat)]) ∧ Only (W.heap.size ≤ ·) W w' :=
      fun W hW => (around_c W ad n c xs (HT.out.later hW) (by omega) hc hcm a ha).mono fun e w' ⟨h, h'⟩ => ⟨by rw [h, HYE.out]; rfl, h'⟩
    have HYES := Lib.hid hyes
    have HARO := Lib.hid haro
    have HKEEP : Hid (∀ w2 : World, Only (w.heap.size ≤ ·) w w2 → w2.cell? (ad.add a) = some (.int .u8 (x0.toNat : Nat)) ∧ w2.cell? ⟨(ad.add a).block, (ad.add a).off + 1, none⟩ = some (.int .u8 (x1.toNat : Nat)) ∧ w2.cell? ⟨(ad.add a).block, (ad.add a).off + 2, none⟩ = some (.int .u8 (x2.toNat : Nat)) ∧ w2.cell? ⟨(ad.add a).block, (ad.add a).off + 3, none⟩ = some (.int .u8 (x3.toNat : Nat))) := by
      have hb := HT.out.block (by omega)
      have hb0 : ¬ (w.heap.size ≤ (ad.add a).block) := by rw [add_block']; omega
      intro w2 ho
      exact ⟨(ho.cell hb0).trans c0, (ho.cell (by exact hb0)).trans c1, (ho.cell (by exact hb0)).trans c2, (ho.cell (by exact hb0)).trans c3⟩
    have hap := fun W : World => run_arrayAt (P := Try.prog) (w := W) 41 5 4 (some (ad.add a)) 4 (c - a) Try.underlying41 (Nat.le_refl _)
    have heq := eq41 y0.toNat y1.toNat y2.toNat y3.toNat x0.toNat x1.toNat x2.toNat x3.toNat
    clear hyes haro c0 c1 c2 c3 hr
    go_enter Try.func15, Try.ntmps15
    go_wp2_with (fail)
    go_region_held3 (fun w' => Only (w.heap.size ≤ ·) w w' ∧ w'.cell? (ad.add a) = some (.int .u8 (x0.toNat : Nat)) ∧ w'.cell? ⟨(ad.add a).block, (ad.add a).off + 1, none⟩ = some (.int .u8 (x1.toNat : Nat)) ∧ w'.cell? ⟨(ad.add a).block, (ad.add a).off + 2, none⟩ = some (.int .u8 (x2.toNat : Nat)) ∧ w'.cell? ⟨(ad.add a).block, (ad.add a).off + 3, none⟩ = some (.int .u8 (x3.toNat : Nat))) (first | assumption | exact ⟨(Only.refl _ w).drew, HKEEP.out _ (Only.refl _ w).drew⟩ | exact ⟨hO3, HKEEP.out _ hO3⟩) (first | (go_at_call 19; refine (HYES.out _).mono ?_; rintro e w2 ⟨rfl, rfl⟩) | (go_at_call 20; refine (HARO.out _ (And.left (by assumption))).mono ?_; rintro e w3 ⟨rfl, ho3⟩; have hO3 : Only (w.heap.size ≤ ·) w w3 := Only.trans (And.left (by assumption)) (ho3.mono fun k h => Nat.le_trans (Only.size (And.left (by assumption))) h)))
    all_goals
      go_wp2
      go_ret
      refine ⟨?_, And.left (by assumption)⟩
      have E2 : isSealed xs (a : Int) = decide ([y0, y1, y2, y3] = [x0, x1, x2, x3]) := by
        rw [E.out, Int.toNat_natCast, HYE.out, HY.out]
        rfl
      rw [E2, four_eq]
      rfl
  · have hr' : room n at_ = false := by simpa using hr
    have E : Hid (isSealed xs at_ = false) := by show _ = _; unfold isSealed; rw [hl, hr']; rfl
    have hno : ∀ W : World, Calls Try.prog 19 #[.slice A n c, .int .i64 at_] W fun e w' => e = .returned (.bool false) ∧ w' = W := fun W => (has_c W A n c (by omega) at_ h1 h2).mono fun e w' ⟨h, h'⟩ => ⟨by rw [h, hr'], h'.symm⟩
    have HNO := Lib.hid hno
    clear hr hr' hno hA ht hl
    go_enter Try.func15, Try.ntmps15
    go_wp2_with (fail)
    go_quiet ((go_at_call 19; exact Calls.quiet_of_same (HNO.out _)))
    go_wp2
    go_ret
    rw [E.out]
    exact ⟨rfl, (Only.refl _ w).drewN _⟩
end Go.Proofs.Ytdgcplmekkancaa
