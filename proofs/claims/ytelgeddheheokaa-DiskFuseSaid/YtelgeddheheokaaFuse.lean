/-
  DiskFuse: what an armed disk does, as plain data; a call of any of the four kinds.
-/
import Derived.Test.YtelgeddheheokaaDoes
set_option linter.unusedVariables false
namespace Go.Proofs.Ytelgeddheheokaa
open Go.RowKit

def Dsk.readE (d : Dsk) (at_ many : Int) : Int := if d.down = true then 10 else if d.has at_ many = false then 11 else 0
def Dsk.step (d : Dsk) (o : Cl) : Dsk × Int :=
  if o.kind = 0 then d.grow o.at_ else if o.kind = 1 then (d, d.readE o.at_ o.many) else if o.kind = 2 then d.write o.at_ o.xs else d.sync

theorem Read_any (w : World) (F : Nat → Prop) (hF : ∀ k, w.heap.size ≤ k → F k) (p : Nat) (d : Dsk) (h : Holds w F p d) (at_ many : Int) (ha : -9223372036854775808 ≤ at_) (ha' : at_ ≤ 9223372036854775807) :
    Calls Try.prog 25 #[.pointer (some ⟨p, 0, none⟩), .int .i64 at_, .int .i64 many] w fun e w' => ∃ v, e = .returned (.tuple #[v, .int .i64 (d.readE at_ many)]) ∧ Hid (Holds w' F p d ∧ Only F w w') := by
  by_cases hd : d.down = true
  · refine (Read_down w F p d h at_ many hd).mono ?_
    rintro e w' ⟨he, rfl⟩
    exact ⟨_, by rw [he, Dsk.readE, if_pos hd], h, Only.refl _ _⟩
  · have hd' : d.down = false := by simpa using hd
    by_cases hh : d.has at_ many = false
    · refine (Read_range w F p d h at_ many ha ha' hd' hh).mono ?_
      rintro e w' ⟨he, rfl⟩
      exact ⟨_, by rw [he, Dsk.readE, if_neg hd, if_pos hh], h, Only.refl _ _⟩
    · have hh' : d.has at_ many = true := by simpa using hh
      have hr : 0 ≤ at_ ∧ 0 ≤ many ∧ many ≤ d.n - at_ := by
        unfold Dsk.has at hh'
        simp at hh'
        omega
      obtain ⟨a, rfl⟩ : ∃ a : Nat, at_ = (a : Int) := ⟨at_.toNat, by omega⟩
      obtain ⟨m, rfl⟩ : ∃ m : Nat, many = (m : Int) := ⟨many.toNat, by omega⟩
      refine (Read_ok w F p d h a m hd' (by omega)).mono ?_
      rintro e w' ⟨he, hb⟩
      have ho := hb.out.2
      exact ⟨_, by rw [he, Dsk.readE, if_neg hd, if_neg hh], h.keep ho (fun k _ hk => by simp; omega), ho.mono hF⟩

set_option maxRecDepth 100000 in
set_option maxHeartbeats 1600000 in
theorem does_any (w : World) (F : Nat → Prop) (hF : ∀ k, w.heap.size ≤ k → F k) (p : Nat) (d : Dsk) (h : Holds w F p d) (ho : d.ops < 4611686018427387904) (hr : d.row.length ≤ 4294967296)
    (o : Cl) (ha : -9223372036854775808 ≤ o.at_ ∧ o.at_ ≤ 9223372036854775807) (hs : Src w F o.B o.nB (cb o.xs)) (hc : o.nB ≤ o.cB ∧ o.cB ≤ maxLen) (hk : 0 ≤ o.kind ∧ o.kind ≤ 3) :
    Calls Try.prog 16 #[.pointer (some ⟨p, 0, none⟩), .agg #[.int .i64 o.kind, .int .i64 o.at_, .int .i64 o.many, .slice o.B o.nB o.cB, .slice o.K o.nK o.cK]] w fun e w' =>
      ∃ v, e = .returned (.tuple #[v, .int .i64 (d.step o).2]) ∧ Hid (Holds w' F p (d.step o).1 ∧ Only F w w') := by
  by_cases k2 : o.kind = 2
  · have := does_write w F hF p d h ho hr o ha hs hc k2
    rw [k2]
    refine this.mono fun e w' hh => ⟨.slice none 0 0, ?_, ?_⟩
    · rw [hh.1, Dsk.step, if_neg (by omega), if_neg (by omega), if_pos k2]
    · rw [Dsk.step, if_neg (by omega), if_neg (by omega), if_pos k2]; exact hh.2
  · by_cases k3 : o.kind = 3
    · have := does_sync w F hF p d h ho hr o
      rw [k3]
      refine this.mono fun e w' hh => ⟨.slice none 0 0, ?_, ?_⟩
      · rw [hh.1, Dsk.step, if_neg (by omega), if_neg (by omega), if_neg (by omega)]
      · rw [Dsk.step, if_neg (by omega), if_neg (by omega), if_neg (by omega)]; exact hh.2
    · have HO : Hid (Only F w (w.alloc (.cells #[.int .i64 o.kind, .int .i64 o.at_, .int .i64 o.many, .slice o.B o.nB o.cB, .slice o.K o.nK o.cK] 34))) := (Only.refl F w).alloc hF _
      have hF' : ∀ k, (w.alloc (.cells #[.int .i64 o.kind, .int .i64 o.at_, .int .i64 o.many, .slice o.B o.nB o.cB, .slice o.K o.nK o.cK] 34)).heap.size ≤ k → F k := fun k hk => hF k (by simp at hk; omega)
      by_cases k0 : o.kind = 0
      · have E : Hid (d.step o = d.grow o.at_) := by show _ = _; rw [Dsk.step, if_pos k0]
        rw [k0] at HO hF' ⊢
        have HW := Lib.hid (Grow_c _ F hF' p d (h.alloc _) o.at_ ha.1 ha.2)
        clear h hs hF hF' k2 k3 k0 hk
        go_enter Try.func16, Try.ntmps16
        go_wp2_with (go_at_call 23; refine HW.out.mono ?_; rintro e w1 ⟨rfl, h1, h2⟩; have H1 := Lib.hid (And.intro h1 (HO.out.trans h2)); clear h1 h2)
        go_ret2
        rw [E.out]
        exact ⟨_, rfl, H1⟩
      · have k1 : o.kind = 1 := by omega
        have E : Hid (d.step o = (d, d.readE o.at_ o.many)) := by show _ = _; rw [Dsk.step, if_neg k0, if_pos k1]
        rw [k1] at HO hF' ⊢
        have HW := Lib.hid (Read_any _ F hF' p d (h.alloc _) o.at_ o.many ha.1 ha.2)
        clear h hs hF hF' k2 k3 k0 k1 hk
        go_enter Try.func16, Try.ntmps16
        go_wp2_with (go_at_call 25; refine HW.out.mono ?_; rintro e w1 ⟨v, rfl, hh⟩; have H1 := Lib.hid (And.intro hh.out.1 (HO.out.trans hh.out.2)); clear hh)
        go_ret2
        rw [E.out]
        exact ⟨v, rfl, H1⟩

/-- What an armed disk is like behind any calls. -/
def Fz (n : Int) (d : Dsk) : Prop :=
  (n < 0 ∧ d.armed = false ∧ d.down = false) ∨ (0 ≤ n ∧ d.armed = true ∧ ((d.down = true ∧ (d.ops : Int) = n + 1) ∨ (d.down = false ∧ (d.ops : Int) ≤ n ∧ (d.left : Int) = n - d.ops)))
theorem Fz.down {n : Int} {d : Dsk} (h : Fz n d) : d.down = (decide (0 ≤ n) && decide (n < (d.ops : Int))) := by
  rcases h with ⟨h1, _, h2⟩ | ⟨h1, _, ⟨h2, h3⟩ | ⟨h2, h3, _⟩⟩
  · rw [h2]; simp; omega
  · rw [h2]; simp; omega
  · rw [h2]; simp; omega
theorem Fz.op {n : Int} {d : Dsk} (h : Fz n d) (hd : d.down = false) : Fz n d.op.1 ∧ (d.op.1.down = decide (d.op.2 = 10)) ∧ d.op.1.ops = d.ops + 1 ∧ d.op.1.row = d.row ∧ (d.op.2 = 0 ∨ d.op.2 = 10) ∧ (d.op.2 = 0 → d.op.1.down = false) := by
  rcases h with ⟨h1, h2, h3⟩ | ⟨h1, h2, ⟨h3, _⟩ | ⟨h3, h4, h5⟩⟩
  · have e : d.op = ({ d with ops := d.ops + 1 }, 0) := by simp [Dsk.op, h2]
    rw [e]
    exact ⟨.inl ⟨h1, h2, h3⟩, by show d.down = _; rw [h3]; rfl, rfl, rfl, .inl rfl, fun _ => h3⟩
  · rw [h3] at hd; cases hd
  · by_cases hl : 0 < d.left
    · have e : d.op = ({ d with ops := d.ops + 1, left := d.left - 1 }, 0) := by simp [Dsk.op, h2, hl]
      rw [e]
      exact ⟨.inr ⟨h1, h2, .inr ⟨h3, by show ((d.ops + 1 : Nat) : Int) ≤ n; omega, by show ((d.left - 1 : Nat) : Int) = n - ((d.ops + 1 : Nat) : Int); omega⟩⟩, by show d.down = _; rw [h3]; rfl, rfl, rfl, .inl rfl, fun _ => h3⟩
    · have e : d.op = ({ d with ops := d.ops + 1, down := true }, 10) := by simp [Dsk.op, h2, hl]
      rw [e]
      exact ⟨.inr ⟨h1, h2, .inl ⟨rfl, by show ((d.ops + 1 : Nat) : Int) = n + 1; omega⟩⟩, rfl, rfl, rfl, .inr rfl, fun h => by cases h⟩
theorem Fz.same {n : Int} {d d' : Dsk} (h : Fz n d) (e1 : d'.armed = d.armed) (e2 : d'.down = d.down) (e3 : d'.ops = d.ops) (e4 : d'.left = d.left) : Fz n d' := by
  unfold Fz at h ⊢
  rw [e1, e2, e3, e4]
  exact h
/-- A disk that is down does nothing, and tells so. -/
theorem step_down {d : Dsk} (hd : d.down = true) (o : Cl) : d.step o = (d, 10) := by
  unfold Dsk.step Dsk.grow Dsk.readE Dsk.write Dsk.sync
  simp only [hd, if_true]
  split
  · rfl
  · split
    · rfl
    · split <;> rfl
/-- A disk that is up: what a call of the four kinds leaves of it. -/
theorem step_up {n : Int} {d : Dsk} (h : Fz n d) (hd : d.down = false) (o : Cl) (hn : d.n ≤ 64) (hlim : d.limit = 64) (hwf : d.WF) :
    Fz n (d.step o).1 ∧ ((d.step o).1.down = decide ((d.step o).2 = 10)) ∧ (d.step o).1.ops ≤ d.ops + 1 ∧ (d.step o).1.row.length ≤ d.row.length + 64 ∧ (d.step o).1.limit = 64 := by
  have hop := h.op hd
  unfold Dsk.step
  split
  · unfold Dsk.grow
    rw [if_neg (by rw [hd]; decide)]
    split
    · exact ⟨h, by rw [hd]; rfl, Nat.le_succ _, Nat.le_add_right _ _, hlim⟩
    · exact ⟨h.same rfl rfl rfl rfl, by show d.down = _; rw [hd]; rfl, Nat.le_succ _, Nat.le_add_right _ _, hlim⟩
  · split
    · refine ⟨h, ?_, Nat.le_succ _, Nat.le_add_right _ _, hlim⟩
      show d.down = _
      unfold Dsk.readE
      rw [hd, if_neg (by decide)]
      split <;> rfl
    · split
      · unfold Dsk.write
        rw [if_neg (by rw [hd]; decide)]
        split
        · exact ⟨h, by rw [hd]; rfl, Nat.le_succ _, Nat.le_add_right _ _, hlim⟩
        · split
          · exact ⟨h, by rw [hd]; rfl, Nat.le_succ _, Nat.le_add_right _ _, hlim⟩
          · rename_i hh
            have hh' : d.has o.at_ (o.xs.length / 64 : Nat) = true := by simpa using hh
            have hl : o.xs.length / 64 ≤ 64 := by unfold Dsk.has at hh'; simp at hh'; omega
            have h2 : Fz n { d with row := d.row ++ chunks o.at_.toNat o.xs (o.xs.length / 64) } := h.same rfl rfl rfl rfl
            obtain ⟨g1, g2, g3, g4, g5, _⟩ := h2.op hd
            refine ⟨g1, g2, by rw [g3]; exact Nat.le_refl _, ?_, ?_⟩
            · rw [g4]
              show (d.row ++ _).length ≤ _
              rw [List.length_append, chunks_length]
              omega
            · unfold Dsk.op
              split
              · exact hlim
              · split <;> exact hlim
      · unfold Dsk.sync
        rw [if_neg (by rw [hd]; decide)]
        obtain ⟨g1, g2, g3, g4, g5, g6⟩ := hop
        split
        · exact ⟨g1, g2, by omega, by rw [g4]; omega, by unfold Dsk.op; split; exact hlim; split <;> exact hlim⟩
        · rename_i hz
          have h0 : d.op.2 = 0 := by simpa using hz
          refine ⟨g1.same rfl rfl rfl rfl, ?_, by show d.op.1.ops ≤ _; omega, Nat.zero_le _, by show d.op.1.limit = 64; unfold Dsk.op; split; exact hlim; split <;> exact hlim⟩
          show d.op.1.down = _
          rw [g6 h0]
          rfl
end Go.Proofs.Ytelgeddheheokaa
