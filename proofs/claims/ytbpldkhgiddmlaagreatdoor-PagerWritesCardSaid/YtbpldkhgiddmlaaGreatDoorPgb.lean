/-
  A pager in memory; its small functions; what it reads.
-/
import Derived.Test.YtbpldkhgiddmlaaGreatDoorPga
set_option linter.unusedVariables false
namespace Go.Proofs.YtbpldkhgiddmlaaGreatDoor
open Go.RowKit

/-- The pager q uses the disk at p. -/
structure PAt (w : World) (q p : Nat) (d : Dk.Dsk) (D : Nat → Prop) : Prop where
  blk : Blk w q 84 [.pointer (some ⟨p, 0, none⟩)]
  off : ¬ D q
  dat : DAt w p d D
def PGave (w w' : World) (q p : Nat) (d' : Dk.Dsk) (D : Nat → Prop) : Prop := Only (fun k => D k ∨ w.heap.size ≤ k) w w' ∧ ∃ D', PAt w' q p d' D' ∧ ∀ k, D' k → D k ∨ w.heap.size ≤ k
section
variable {w w' w1 w2 : World} {q p : Nat} {d d' d1 d2 : Dk.Dsk} {D D1 : Nat → Prop}
theorem PAt.later (h : PAt w q p d D) (ho : Only (w.heap.size ≤ ·) w w') : PAt w' q p d D := ⟨h.blk.only ho (Nat.not_le.2 h.blk.lt), h.off, h.dat.later ho⟩
theorem PAt.gave (h : PAt w q p d D) (hg : DGave w w' p d' D) : PGave w w' q p d' D := by
  obtain ⟨ho, D', hd, hs⟩ := hg
  have hq := h.blk.lt
  have hn : ¬ (D q ∨ w.heap.size ≤ q) := fun hk => hk.elim h.off fun hk => by omega
  exact ⟨ho, D', ⟨h.blk.only ho hn, fun hk => hn (hs q hk), hd⟩, hs⟩
theorem PGave.trans (ho : Only (fun k => D k ∨ w.heap.size ≤ k) w w1) (hD : ∀ k, D1 k → D k ∨ w.heap.size ≤ k) (h2 : PGave w1 w2 q p d2 D1) : PGave w w2 q p d2 D := by
  obtain ⟨o2, D2, a2, s2⟩ := h2
  have hs : ∀ k, D1 k ∨ w1.heap.size ≤ k → D k ∨ w.heap.size ≤ k := fun k hk => hk.elim (hD k) fun hk => .inr (Nat.le_trans ho.size hk)
  exact ⟨ho.trans (o2.mono hs), D2, a2, fun k hk => hs k (s2 k hk)⟩
theorem PGave.of (h : PAt w q p d D) (ho : Only (w.heap.size ≤ ·) w w') : PGave w w' q p d D := ⟨ho.mono fun _ hk => .inr hk, D, h.later ho, fun _ hk => .inl hk⟩
end

theorem PgNew_c (w : World) (p : Nat) (d : Dk.Dsk) (D : Nat → Prop) (h : DAt w p d D) :
    Calls Tryz.prog 9 #[.pointer (some ⟨p, 0, none⟩)] w fun e w' => ∃ q, e = .returned (.pointer (some ⟨q, 0, none⟩)) ∧ PAt w' q p d D ∧ Only (w.heap.size ≤ ·) w w' := by
  have H := Lib.hid h
  clear h
  go_enter Tryz.func9, Tryz.ntmps9
  go_wp2
  go_ret
  have ho : Only (w.heap.size ≤ ·) w (w.alloc (.cells #[.pointer (some ⟨p, 0, none⟩)] 84)) := (Only.refl _ w).alloc (fun _ h => h) _
  exact ⟨_, rfl, ⟨Blk.new w _ _, fun hk => by have := H.out.lt _ hk; omega, H.out.later ho⟩, ho⟩
theorem PgNew_nil (w : World) : Calls Tryz.prog 9 #[.pointer none] w fun e w' => e = .returned (.pointer none) ∧ w = w' := by
  go_enter Tryz.func9, Tryz.ntmps9
  go_wp2
  go_ret
  exact ⟨rfl, rfl⟩
section
variable (w : World) (q p : Nat) (d : Dk.Dsk) (D : Nat → Prop) (h : PAt w q p d D)
include h
theorem PgDisk_c : Calls Tryz.prog 34 #[.pointer (some ⟨q, 0, none⟩)] w fun e w' => e = .returned (.pointer (some ⟨p, 0, none⟩)) ∧ w = w' := by
  have h0 := h.blk.cell 0
  simp only [List.getElem?_cons_zero] at h0
  clear h
  go_enter Tryz.func34, Tryz.ntmps34
  go_wp2
  go_ret
  exact ⟨rfl, rfl⟩
theorem PgPages_c : Calls Tryz.prog 20 #[.pointer (some ⟨q, 0, none⟩)] w fun e w' => e = .returned (.int .i64 ((d.n / 4 : Nat) : Int)) ∧ w = w' := by
  have h0 := h.blk.cell 0
  simp only [List.getElem?_cons_zero] at h0
  have H := Lib.hid (Dk.Size_c w D p d h.dat.holds)
  have hn : (d.n : Int) ≤ 65536 := by have h1 := h.dat.wf.nl; have h2 := h.dat.wf.lim; omega
  clear h
  go_enter Tryz.func20, Tryz.ntmps20
  go_wp2_with (go_at_call 21; (with_reducible refine H.out.mono ?_); rintro e w' ⟨rfl, rfl⟩)
  go_ret
  exact ⟨rfl, rfl⟩
theorem PgLimit_c : Calls Tryz.prog 22 #[.pointer (some ⟨q, 0, none⟩)] w fun e w' => e = .returned (.int .i64 ((d.limit / 4 : Nat) : Int)) ∧ w = w' := by
  have h0 := h.blk.cell 0
  simp only [List.getElem?_cons_zero] at h0
  have H := Lib.hid (Dk.Limit_c w D p d h.dat.holds)
  have hn : (d.limit : Int) ≤ 65536 := by have h2 := h.dat.wf.lim; omega
  clear h
  go_enter Tryz.func22, Tryz.ntmps22
  go_wp2_with (go_at_call 23; (with_reducible refine H.out.mono ?_); rintro e w' ⟨rfl, rfl⟩)
  go_ret
  exact ⟨rfl, rfl⟩
end
/-- What a disk reads. -/
def rdD (d : Dk.Dsk) (a m : Int) : Bytes × Int := if d.down = true then ([], 10) else if d.has a m = false then ([], 11) else ((d.see.drop (a.toNat * 64)).take (m.toNat * 64), 0)
def rdP (d : Dk.Dsk) (id many : Int) : Bytes × Int := if id < 0 ∨ many < 1 ∨ 32768 < max id many then ([], 1) else rdD d (id * 4) (many * 4)
def GaveBy (w : World) (s : Bytes × Int) (e : Ending) (w' : World) : Prop := ∃ v, e = .returned (.tuple #[v, .int .i64 s.2]) ∧ New w' w.heap.size v s.1 ∧ Only (w.heap.size ≤ ·) w w'
theorem Read_d (w : World) (p : Nat) (d : Dk.Dsk) (D : Nat → Prop) (h : DAt w p d D) (a m : Int) (ha : I64v a) : Calls Tryz.prog 55 #[.pointer (some ⟨p, 0, none⟩), .int .i64 a, .int .i64 m] w (GaveBy w (rdD d a m)) := by
  unfold rdD
  by_cases h1 : d.down = true
  · rw [if_pos h1]
    refine (Dk.Read_down w D p d h.holds a m h1).mono ?_
    rintro e w' ⟨rfl, rfl⟩
    exact ⟨_, rfl, New.nil_ _ _, Only.refl _ _⟩
  · rw [if_neg h1]
    have h1' : d.down = false := by simpa using h1
    by_cases h2 : d.has a m = false
    · rw [if_pos h2]
      refine (Dk.Read_range w D p d h.holds a m ha.1 ha.2 h1' h2).mono ?_
      rintro e w' ⟨rfl, rfl⟩
      exact ⟨_, rfl, New.nil_ _ _, Only.refl _ _⟩
    · rw [if_neg h2]
      have h3 : d.has a m = true := by simpa using h2
      simp only [Dk.Dsk.has, Bool.and_eq_true, decide_eq_true_eq] at h3
      obtain ⟨k1, k2, k3⟩ := h3
      obtain ⟨a', rfl⟩ : ∃ x : Nat, a = x := ⟨a.toNat, by omega⟩
      obtain ⟨m', rfl⟩ : ∃ x : Nat, m = x := ⟨m.toNat, by omega⟩
      refine (Dk.Read_ok w D p d h.holds a' m' h1' (by omega)).mono ?_
      rintro e w' ⟨rfl, hh⟩
      obtain ⟨hb, ho⟩ := hh.out
      have hl : ((d.see.drop (a' * 64)).take (m' * 64)).length = m' * 64 := by
        have := h.wf.see
        simp only [List.length_take, List.length_drop]
        omega
      have hlim : m' * 64 ≤ 4194304 := by have h5 := h.wf.nl; have h6 := h.wf.lim; omega
      refine ⟨_, rfl, ?_, ho⟩
      simp only [Int.toNat_natCast]
      have := Txt.blk (A := some ⟨w.heap.size, 0, none⟩) (rest := []) (by rw [List.append_nil]; exact hb) 0 (m' * 64) (by rw [hl]; omega) (fun _ => rfl)
      rw [List.drop_zero, List.take_of_length_le (by rw [hl]; exact Nat.le_refl _)] at this
      exact ⟨some ⟨w.heap.size, 0, none⟩, m' * 64, by rw [hl], by rw [hl]; exact this, (fun e => by cases e), by rw [hl]; exact Nat.le_refl _, by omega, fun ad e => by cases e; exact ⟨Nat.le_refl _, hb.lt⟩⟩
theorem PgSome_c (w : World) (q p : Nat) (d : Dk.Dsk) (D : Nat → Prop) (h : PAt w q p d D) (id many : Int) : Calls Tryz.prog 24 #[.pointer (some ⟨q, 0, none⟩), .int .i64 id, .int .i64 many] w (GaveBy w (rdP d id many)) := by
  have h0 := h.blk.cell 0
  simp only [List.getElem?_cons_zero] at h0
  by_cases g1 : id < 0
  · have E : Hid (rdP d id many = ([], 1)) := Lib.hid (if_pos (.inl g1))
    clear h
    go_enter Tryz.func24, Tryz.ntmps24
    go_wp2
    go_ret2
    rw [E.out]
    exact ⟨_, rfl, New.nil_ _ _, Only.refl _ _⟩
  · by_cases g2 : many < 1
    · have E : Hid (rdP d id many = ([], 1)) := Lib.hid (if_pos (.inr (.inl g2)))
      clear h
      go_enter Tryz.func24, Tryz.ntmps24
      go_wp2
      go_ret2
      rw [E.out]
      exact ⟨_, rfl, New.nil_ _ _, Only.refl _ _⟩
    · by_cases g3 : 32768 < max id many
      · have E : Hid (rdP d id many = ([], 1)) := Lib.hid (if_pos (.inr (.inr g3)))
        clear h
        go_enter Tryz.func24, Tryz.ntmps24
        go_wp2
        go_ret2
        rw [E.out]
        exact ⟨_, rfl, New.nil_ _ _, Only.refl _ _⟩
      · have E : Hid (rdP d id many = rdD d (id * 4) (many * 4)) := Lib.hid (if_neg (by omega))
        have H := Lib.hid (Read_d w p d D h.dat (id * 4) (many * 4) (by unfold I64v; omega))
        have k1 : IntKind.i64.wrap (id * 4) = id * 4 := IntWalk.i64_in _ (by omega)
        have k2 : IntKind.i64.wrap (many * 4) = many * 4 := IntWalk.i64_in _ (by omega)
        clear h
        go_enter Tryz.func24, Tryz.ntmps24
        go_wp2_with (go_at_call 55; (with_reducible refine H.out.mono ?_); rintro e w' ⟨v, rfl, hn, ho⟩; have HN := Lib.hid hn; have HO := Lib.hid ho; clear hn ho)
        go_ret2
        rw [E.out]
        exact ⟨_, rfl, HN.out, HO.out⟩
theorem PgPage_c (w : World) (q p : Nat) (d : Dk.Dsk) (D : Nat → Prop) (h : PAt w q p d D) (id : Int) : Calls Tryz.prog 25 #[.pointer (some ⟨q, 0, none⟩), .int .i64 id] w (GaveBy w (rdP d id 1)) := by
  have H := Lib.hid (PgSome_c w q p d D h id 1)
  clear h
  go_enter Tryz.func25, Tryz.ntmps25
  go_wp2_with (go_at_call 24; (with_reducible refine H.out.mono ?_); rintro e w' ⟨v, rfl, hn, ho⟩; have HN := Lib.hid hn; have HO := Lib.hid ho; clear hn ho)
  go_ret2
  exact ⟨_, rfl, HN.out, HO.out⟩
end Go.Proofs.YtbpldkhgiddmlaaGreatDoor
