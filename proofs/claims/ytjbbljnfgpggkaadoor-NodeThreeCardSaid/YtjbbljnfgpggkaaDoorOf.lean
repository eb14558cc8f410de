/-
  Of, Same of the program; Same of the document.
-/
import Derived.Test.YtjbbljnfgpggkaaDoorCmp
import Derived.Test.YtjbbljnfgpggkaaDoorItm
set_option linter.unusedVariables false
namespace Go.Proofs.YtjbbljnfgpggkaaDoor
open Go.RowKit

/-- A slice value of the call's own (from block b on) that holds these bytes. -/
def New (w : World) (b : Nat) (v : Value) (xs : Bytes) : Prop := ∃ A c, v = .slice A xs.length c ∧ Txt w A xs.length xs ∧ (A = none → c = 0) ∧ xs.length ≤ c ∧ c ≤ 9223372036854775807 ∧ ∀ ad, A = some ad → b ≤ ad.block ∧ ad.block < w.heap.size
theorem New.src {w : World} {b : Nat} {v : Value} {xs : Bytes} (h : New w b v xs) : Src w v xs := by
  obtain ⟨A, c, h1, h2, h3, h4, h5, _⟩ := h
  exact ⟨A, c, h1, h2, h3, h4, h5⟩
theorem New.keep {w w' : World} {F : Nat → Prop} {b : Nat} {v : Value} {xs : Bytes} (h : New w b v xs) (ho : Only F w w') (hF : ∀ k, b ≤ k → k < w.heap.size → ¬ F k) : New w' b v xs := by
  obtain ⟨A, c, h1, h2, h3, h4, h5, h6⟩ := h
  exact ⟨A, c, h1, h2.only ho (fun ad _ e => hF ad.block (h6 ad e).1 (h6 ad e).2), h3, h4, h5, fun ad e => ⟨(h6 ad e).1, Nat.lt_of_lt_of_le (h6 ad e).2 ho.size⟩⟩
theorem New.later {w w' : World} {b : Nat} {v : Value} {xs : Bytes} (h : New w b v xs) (ho : Only (w.heap.size ≤ ·) w w') : New w' b v xs := h.keep ho fun k _ h => Nat.not_le.2 h
theorem New.mono {w : World} {b b' : Nat} {v : Value} {xs : Bytes} (h : New w b v xs) (hb : b' ≤ b) : New w b' v xs := by
  obtain ⟨A, c, h1, h2, h3, h4, h5, h6⟩ := h
  exact ⟨A, c, h1, h2, h3, h4, h5, fun ad e => ⟨Nat.le_trans hb (h6 ad e).1, (h6 ad e).2⟩⟩
theorem New.own {w : World} {b n : Nat} {v : Value} {xs : Bytes} (h : w.ownsRow b 5 1 v n (cb xs)) : New w b v xs := by
  obtain ⟨A, c, h1, h2, h3, h4, h5, h6⟩ := txt_of_own h
  obtain rfl : xs.length = n := h2.1
  exact ⟨A, c, h1, h2, fun e => (h3 e).2, h4, by simp only [maxLen] at h5; omega, h6⟩

theorem New.form {w : World} {b n : Nat} {v : Value} {xs : Bytes} (h : w.ownsRow b 5 1 v n (cb xs)) : ∃ A c, v = .slice A xs.length c ∧ New w b (.slice A xs.length c) xs := by
  obtain ⟨A, c, h1, h2⟩ := New.own h
  exact ⟨A, c, h1, A, c, rfl, h2⟩

set_option maxRecDepth 100000 in
set_option maxHeartbeats 3200000 in
theorem Of_c (w : World) (v u : Value) (xs ys : Bytes) (h : Src w v xs) (h' : Src w u ys) (hx : xs.length ≤ 1099511627776) (hy : ys.length ≤ 1099511627776) :
    Calls Tryd.prog 23 #[v, u] w fun e w' => ∃ k l, e = .returned (.agg #[k, l, .int .i64 0, .int .i64 0]) ∧ New w' w.heap.size k xs ∧ New w' w.heap.size l ys ∧ Only (w.heap.size ≤ ·) w w' := by
  have HI : Hid (Blk (w.alloc (.cells #[.slice none 0 0, .slice none 0 0, .int .i64 0, .int .i64 0] 56)) w.heap.size 56 [.slice none 0 0, .slice none 0 0, .int .i64 0, .int .i64 0]) := Blk.new w 56 [.slice none 0 0, .slice none 0 0, .int .i64 0, .int .i64 0]
  have HO : Hid (Only (w.heap.size ≤ ·) w (w.alloc (.cells #[.slice none 0 0, .slice none 0 0, .int .i64 0, .int .i64 0] 56))) := (Only.refl _ w).alloc (fun _ h => h) _
  have HS := Lib.hid (h.later HO.out)
  have HT := Lib.hid (h'.later HO.out)
  have HX := Lib.hid hx
  have HY := Lib.hid hy
  clear h h' hx hy
  go_enter Tryd.func23, Tryd.ntmps23
  go_wp2_with (first
    | (go_at_call 50; (with_reducible refine (Clone_c _ v xs HS.out HX.out).mono ?_); rintro e w1 ⟨k, rfl, hk, ho⟩; (obtain ⟨A1, c1, rfl, hk'⟩ := New.form hk); replace HI := Lib.hid (HI.out.later ho); replace HT := Lib.hid (HT.out.later ho); have HK := Lib.hid hk'; replace HO := Lib.hid (And.intro (on_new HO.out ho) ho.size); clear hk hk' ho)
    | (go_at_call 50; (with_reducible refine (Clone_c _ u ys HT.out HY.out).mono ?_); rintro e w2 ⟨l, rfl, hl, ho⟩; (obtain ⟨A2, c2, rfl, hl'⟩ := New.form hl); replace HI := Lib.hid (HI.out.later ho); obtain ⟨i0, i1, i2, i3⟩ := HI.out.four; have f0 := HI.out.frozen 0; have f1 := HI.out.frozen 1; have f2 := HI.out.frozen 2; have f3 := HI.out.frozen 3; replace HK := Lib.hid (HK.out.later ho); have HL := Lib.hid hl'; replace HO := Lib.hid (And.intro (on_new HO.out.1 ho) (And.intro HO.out.2 ho.size)); clear hl hl' ho))
  have hs : (w.alloc (.cells #[.slice none 0 0, .slice none 0 0, .int .i64 0, .int .i64 0] 56)).heap.size = w.heap.size + 1 := by simp
  obtain ⟨W, hW⟩ : ∃ W, W = (((w2.setCell ⟨w.heap.size, 0, none⟩ (.slice A1 xs.length c1)).setCell ⟨w.heap.size, 1, none⟩ (.slice A2 ys.length c2)).setCell ⟨w.heap.size, 2, none⟩ (.int .i64 0)).setCell ⟨w.heap.size, 3, none⟩ (.int .i64 0) := ⟨_, rfl⟩
  have hB : Blk W w.heap.size 56 [.slice A1 xs.length c1, .slice A2 ys.length c2, .int .i64 0, .int .i64 0] := by rw [hW]; exact (((HI.out.set_ 0 _).set_ 1 _).set_ 2 _).set_ 3 _
  have hO : Only (· = w.heap.size) w2 W := by rw [hW]; exact ((((Only.refl (· = w.heap.size) w2).setCell (p := ⟨w.heap.size, 0, none⟩) rfl _).setCell (p := ⟨w.heap.size, 1, none⟩) rfl _).setCell (p := ⟨w.heap.size, 2, none⟩) rfl _).setCell (p := ⟨w.heap.size, 3, none⟩) rfl _
  rw [← hW]
  clear hW i0 i1 i2 i3
  obtain ⟨i0, i1, i2, i3⟩ := hB.four
  refine bodyPost_ret (v := .agg #[.slice A1 xs.length c1, .slice A2 ys.length c2, .int .i64 0, .int .i64 0]) (by simp [results, Tryd.results23, go_sem, i0, i1, i2, i3]) rfl
    ⟨_, _, rfl, (HK.out.keep hO fun k hk _ e => by rw [hs] at hk; omega).mono (by omega), (HL.out.keep hO fun k hk _ e => by have := HO.out.2.1; rw [hs] at this; omega).mono (by have := HO.out.2.1; omega), HO.out.1.trans (hO.mono fun k e => by rw [e]; exact Nat.le_refl _)⟩
end Go.Proofs.YtjbbljnfgpggkaaDoor
