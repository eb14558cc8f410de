/-
  A call of a script, done: a Write, a Sync.
-/
import Derived.Test.YtelgeddheheokaaAliv
import Derived.Test.YtelgeddheheokaaFew
set_option linter.unusedVariables false
namespace Go.Proofs.Ytelgeddheheokaa
open Go.RowKit

theorem Src.alloc {w : World} {F : Nat → Prop} {A : Option Addr} {n : Nat} {xs : List Value} (h : Src w F A n xs) (ob : Obj) : Src (w.alloc ob) F A n xs :=
  ⟨h.1, fun hn => by
    obtain ⟨ad, hA, hb, hc⟩ := h.2 hn
    exact ⟨ad, hA, hb, fun j u hu => by
      have h1 := hc j u hu
      rw [World.cell?_alloc_lt _ _ _ (World.block_lt_of_cell? w _ h1)]
      exact h1⟩⟩

set_option maxRecDepth 100000 in
set_option maxHeartbeats 1600000 in
theorem does_write (w : World) (F : Nat → Prop) (hF : ∀ k, w.heap.size ≤ k → F k) (p : Nat) (d : Dsk) (h : Holds w F p d) (ho : d.ops < 4611686018427387904) (hr : d.row.length ≤ 4294967296)
    (o : Cl) (ha : -9223372036854775808 ≤ o.at_ ∧ o.at_ ≤ 9223372036854775807) (hs : Src w F o.B o.nB (cb o.xs)) (hc : o.nB ≤ o.cB ∧ o.cB ≤ maxLen) (hk : o.kind = 2) :
    Calls Try.prog 16 #[.pointer (some ⟨p, 0, none⟩), .agg #[.int .i64 2, .int .i64 o.at_, .int .i64 o.many, .slice o.B o.nB o.cB, .slice o.K o.nK o.cK]] w fun e w' =>
      e = .returned (.tuple #[.slice none 0 0, .int .i64 (d.write o.at_ o.xs).2]) ∧ Hid (Holds w' F p (d.write o.at_ o.xs).1 ∧ Only F w w') := by
  have hw := Write_c (w.alloc (.cells #[.int .i64 2, .int .i64 o.at_, .int .i64 o.many, .slice o.B o.nB o.cB, .slice o.K o.nK o.cK] 34)) F (fun k hk => hF k (by simp at hk; omega)) p d (h.alloc _) ho o.at_ ha.1 ha.2 o.B o.nB o.cB o.xs (hs.alloc _) hc.1 hc.2 hr
  have HW := Lib.hid hw
  have HO : Hid (Only F w (w.alloc (.cells #[.int .i64 2, .int .i64 o.at_, .int .i64 o.many, .slice o.B o.nB o.cB, .slice o.K o.nK o.cK] 34))) := (Only.refl F w).alloc hF _
  clear hw h hs hF hk
  go_enter Try.func16, Try.ntmps16
  go_wp2_with (go_at_call 13; refine HW.out.mono ?_; rintro e w1 ⟨rfl, h1, h2⟩; have H1 := Lib.hid (And.intro h1 (HO.out.trans h2)); clear h1 h2)
  go_ret2
  exact ⟨rfl, H1⟩

set_option maxRecDepth 100000 in
set_option maxHeartbeats 1600000 in
theorem does_sync (w : World) (F : Nat → Prop) (hF : ∀ k, w.heap.size ≤ k → F k) (p : Nat) (d : Dsk) (h : Holds w F p d) (ho : d.ops < 4611686018427387904) (hr : d.row.length ≤ 4294967296) (o : Cl) :
    Calls Try.prog 16 #[.pointer (some ⟨p, 0, none⟩), .agg #[.int .i64 3, .int .i64 o.at_, .int .i64 o.many, .slice o.B o.nB o.cB, .slice o.K o.nK o.cK]] w fun e w' =>
      e = .returned (.tuple #[.slice none 0 0, .int .i64 d.sync.2]) ∧ Hid (Holds w' F p d.sync.1 ∧ Only F w w') := by
  have hw := Sync_c (w.alloc (.cells #[.int .i64 3, .int .i64 o.at_, .int .i64 o.many, .slice o.B o.nB o.cB, .slice o.K o.nK o.cK] 34)) F (fun k hk => hF k (by simp at hk; omega)) p d (h.alloc _) ho hr
  have HW := Lib.hid hw
  have HO : Hid (Only F w (w.alloc (.cells #[.int .i64 3, .int .i64 o.at_, .int .i64 o.many, .slice o.B o.nB o.cB, .slice o.K o.nK o.cK] 34))) := (Only.refl F w).alloc hF _
  clear hw h hF
  go_enter Try.func16, Try.ntmps16
  go_wp2_with (go_at_call 10; refine HW.out.mono ?_; rintro e w1 ⟨rfl, h1, h2⟩; have H1 := Lib.hid (And.intro h1 (HO.out.trans h2)); clear h1 h2)
  go_ret2
  exact ⟨rfl, H1⟩
end Go.Proofs.Ytelgeddheheokaa
