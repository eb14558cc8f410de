/-
  itemKeys, kidKeys, formed.
-/
import Derived.Test.YtnjhpjpeeehagaaTsn
import Derived.BigQuiet
set_option linter.unusedVariables false
namespace Go.Proofs.Ytnjhpjpeeehagaa
open Go.RowKit

theorem info_B : (Try.prog.info? 34).map (fun i => (i.zero, i.size, i.bytes)) = some (some (.slice none 0 0), 1, 24) := by kernel_rfl
def GaveBys (w : World) (l : List Bytes) (e : Ending) (w' : World) : Prop := (∃ A n c, e = .returned (.slice A n c) ∧ Bys w' (.slice A n c) l) ∧ Only (w.heap.size ≤ ·) w w'
set_option maxRecDepth 100000 in
set_option maxHeartbeats 6400000 in
theorem itemKeys_c (w : World) (f : Bool) (A B : Option Addr) (n c m d : Nat) (x : Nd) (hN : Nod w x f (.slice A n c) (.slice B m d)) (hs : Sml x) :
    Calls Try.prog 56 #[.agg #[.bool f, .slice A n c, .slice B m d]] w (GaveBys w (x.its.map (·.1))) := by
  obtain ⟨i1, hi0, hz0, hz1, hz2⟩ := info_parts info_B
  have HI1 := Lib.hid (And.intro hi0 (And.intro hz0 (And.intro hz1 hz2)))
  clear hi0 hz0 hz1 hz2
  have hn1 : n ≤ 1000 := by rw [hN.2.1.len]; exact hs.1
  have hm1 : m ≤ 1000 := by rw [hN.2.2.len]; exact hs.2.1
  have HNL := Lib.hid hN.2.1.len
  have HML := Lib.hid hN.2.2.len
  have hcap := hN.2.1.cap
  obtain ⟨w1, hw1⟩ : ∃ x, x = w.alloc (.cells #[.bool f, .slice A n c, .slice B m d] 55) := ⟨_, rfl⟩
  obtain ⟨b1, hb1⟩ : ∃ x, x = w.heap.size := ⟨_, rfl⟩
  have Hb1 : Hid (Blk w1 b1 55 [.bool f, .slice A n c, .slice B m d]) := Lib.hid (by rw [hw1, hb1]; exact Blk.new w _ [.bool f, .slice A n c, .slice B m d])
  have HXb1 : Hid (Only (w.heap.size ≤ ·) w w1) := Lib.hid (by rw [hw1]; exact (Only.refl _ w).alloc (fun _ h => h) _)
  have HEQb1 : Hid (w1 = w.alloc (.cells #[.bool f, .slice A n c, .slice B m d] 55) ∧ b1 = w.heap.size) := Lib.hid ⟨hw1, hb1⟩
  clear hw1 hb1
  have HN := Lib.hid (hN.later HXb1.out)
  clear hN hs
  go_enter Try.func56, Try.ntmps56
  go_upto_region 1 with (fail)
  rw [← HEQb1.out.1, ← HEQb1.out.2]
  obtain ⟨q0, q1, q2⟩ := Hb1.out.tri
  go_wp2_with (fail)
  clear q0 q1 q2
  go_loopg [3, 9] n (fun gk pv iv wr => ∃ (k : Nat) (R : Option Addr) (t : Nat) (C : List Value), gk = n - k ∧ k ≤ n ∧ pv = .slice R k t ∧ iv = .int .i64 (k : Int) ∧ Hid (wr.ownsRow w1.heap.size 34 1 (.slice R k t) k C) ∧ Hid (∀ W, Only (w1.heap.size ≤ ·) w1 W → Den (byE.At W) ((x.its.map (·.1)).take k) C) ∧ Hid (Only (w1.heap.size ≤ ·) w1 wr))
  case atStart => exact ⟨0, none, 0, [], rfl, Nat.zero_le _, rfl, rfl, Lib.hid (World.ownsRow_nil _ _ _ _), Lib.hid (fun W _ => rfl), Lib.hid (Only.refl _ _)⟩
  case round =>
    obtain ⟨k, R, t, C, rfl, hk, rfl, rfl, HROW, HDEN, HO⟩ := hrel
    by_cases hlt : k < n
    · have hlt' : (k : Int) < (n : Int) := by omega
      obtain ⟨b, off, y, P, Q, p, q, rfl, hb, hy, q0, q1, q2, q3, hs1, hs2⟩ := its_at (HN.out.2.1.later HO.out) hlt
      have HY : Hid ((x.its.map (·.1))[k]? = some y.1) := Lib.hid (by rw [List.getElem?_map, hy]; rfl)
      obtain ⟨yk, yv, ys, yr⟩ := y
      simp only at q0 q1 q2 q3 hs1 HY
      have HTK : Hid ((x.its.map (·.1)).take (k + 1) = (x.its.map (·.1)).take k ++ [yk]) := Lib.hid (by rw [List.take_add_one, HY.out]; rfl)
      have HSY : Hid (∀ W, Only (w1.heap.size ≤ ·) w1 W → ∃ P, P = P) := Lib.hid fun W _ => ⟨0, rfl⟩
      obtain ⟨w5, hw5⟩ : ∃ x, x = wr.alloc (.cells #[.slice P yk.length p, .slice Q yv.length q, .int .i64 ys, .int .i64 yr] 39) := ⟨_, rfl⟩
      obtain ⟨b5, hb5⟩ : ∃ x, x = wr.heap.size := ⟨_, rfl⟩
      have Hb5 : Hid (Blk w5 b5 39 [.slice P yk.length p, .slice Q yv.length q, .int .i64 ys, .int .i64 yr]) := Lib.hid (by rw [hw5, hb5]; exact Blk.new wr _ [.slice P yk.length p, .slice Q yv.length q, .int .i64 ys, .int .i64 yr])
      have HXb5 : Hid (Only (wr.heap.size ≤ ·) wr w5) := Lib.hid (by rw [hw5]; exact (Only.refl _ wr).alloc (fun _ h => h) _)
      have HEQb5 : Hid (w5 = wr.alloc (.cells #[.slice P yk.length p, .slice Q yv.length q, .int .i64 ys, .int .i64 yr] 39) ∧ b5 = wr.heap.size) := Lib.hid ⟨hw5, hb5⟩
      clear hw5 hb5
      have HBL : Hid (Blk (w5.alloc (.cells #[.slice P yk.length p] 34)) w5.heap.size 34 [.slice P yk.length p]) := Lib.hid (Blk.new w5 _ [.slice P yk.length p])
      have HR5 := Lib.hid (own_later HROW.out HXb5.out)
      have HO5 := Lib.hid (on_new HO.out HXb5.out)
      have HSS := Lib.hid hs1
      have HSW : Hid (∀ W, Only (w1.heap.size ≤ ·) w1 W → Src W (.slice P yk.length p) yk) := Lib.hid (by
        have h1 := HN.out.2.1
        obtain ⟨b2, off2, y2, P2, Q2, p2, q2', e2, _, hy2, z0, z1, z2, z3, ss1, ss2⟩ := its_at h1 hlt
        simp only [Option.some.injEq, Addr.mk.injEq, and_true] at e2
        obtain ⟨rfl, rfl⟩ := e2
        have e3 := (HO.out.cell (p := ⟨b, off + k * 4, none⟩) (by have := World.block_lt_of_cell? w1 _ z0; simp only at this ⊢; omega)).trans z0
        rw [q0] at e3
        rw [hy] at hy2
        cases hy2
        simp only [Option.some.injEq, Value.slice.injEq, true_and] at e3
        obtain ⟨rfl, rfl⟩ := e3
        exact fun W hW => ss1.later hW)
      clear hy hs1 hs2
      go_upto_region 5 with (fail)
      rw [← HEQb5.out.1, ← HEQb5.out.2]
      obtain ⟨c0, c1, c2, c3⟩ := Hb5.out.four
      clear q0 q1 q2 q3
      go_wp2_with (at_builtin; go_loud (refine wpList_append_at rfl (.tmp 13) (.tmp 16) 116 rfl w1.heap.size 34 i1 (.slice none 0 0) 1 24 Try.underlying116 HI1.out.1 HI1.out.2.1 HI1.out.2.2.1 HI1.out.2.2.2 (by rfl) (by omega) (.slice R k t) k C rfl (World.ownsRow.alloc HR5.out _) ⟨w5.heap.size, 0, none⟩ 1 1 [.slice P yk.length p] rfl rfl (fun j u hu => by rw [Addr.add_lit, HBL.out.cell, Nat.zero_add]; exact hu) (by simp [Value.oneCell']) (by simp only [maxLen]; omega) (by omega) (by have := HO5.out.size; simp; omega) ?_; intro v' w' ho' hg' hat'; (obtain ⟨R2, t2, rfl, _⟩ := raw_of_own ho'); have HROW2 := Lib.hid ho'; have HOF : Hid (Only (w1.heap.size ≤ ·) w1 w') := Lib.hid ((HO5.out.alloc (fun _ h => h) (.cells #[.slice P yk.length p] 34)).grown hg' (fun _ h => h) (fun g hg => (World.ownsRow.lt HR5.out g hg).1)); clear ho' hg' hat'))
      go_roundg (n - (k + 1))
      case measure => omega
      case rel => exact ⟨k + 1, R2, t2, _, rfl, by omega, rfl, by go_num, HROW2, Lib.hid (fun W hW => by rw [HTK.out]; exact Den.append (HDEN.out W hW) (Den.single ⟨P, p, rfl, HSW.out W hW⟩)), HOF⟩
    · obtain rfl : k = n := by omega
      have hkm : ¬ (k : Int) < (k : Int) := by omega
      have HALL : Hid ((x.its.map (·.1)).take k = (x.its.map (·.1))) := Lib.hid (by rw [List.take_of_length_le]; simp; rw [← HNL.out]; omega)
      have HLL : Hid (k = (x.its.map (·.1)).length) := Lib.hid (by simp; exact HNL.out)
      go_wp2_with (fail)
      go_ret
      exact ⟨⟨R, k, t, rfl, Own.rw_ (E := byE) (t := 34) (B := w1.heap.size) ⟨by have := HLL.out; exact this, C, by have := HDEN.out wr HO.out; rw [HALL.out] at this; exact this, HROW.out⟩⟩, on_new HXb1.out HO.out⟩
set_option maxRecDepth 100000 in
set_option maxHeartbeats 6400000 in
theorem kidKeys_c (w : World) (f : Bool) (A B : Option Addr) (n c m d : Nat) (x : Nd) (hN : Nod w x f (.slice A n c) (.slice B m d)) (hs : Sml x) (h2 : 2 ≤ m) :
    Calls Try.prog 57 #[.agg #[.bool f, .slice A n c, .slice B m d]] w (GaveBys w ((x.kds.drop 1).map (·.1))) := by
  obtain ⟨i1, hi0, hz0, hz1, hz2⟩ := info_parts info_B
  have HI1 := Lib.hid (And.intro hi0 (And.intro hz0 (And.intro hz1 hz2)))
  clear hi0 hz0 hz1 hz2
  have hn1 : n ≤ 1000 := by rw [hN.2.1.len]; exact hs.1
  have hm1 : m ≤ 1000 := by rw [hN.2.2.len]; exact hs.2.1
  have HNL := Lib.hid hN.2.1.len
  have HML := Lib.hid hN.2.2.len
  have hcap := hN.2.2.cap
  obtain ⟨w1, hw1⟩ : ∃ x, x = w.alloc (.cells #[.bool f, .slice A n c, .slice B m d] 55) := ⟨_, rfl⟩
  obtain ⟨b1, hb1⟩ : ∃ x, x = w.heap.size := ⟨_, rfl⟩
  have Hb1 : Hid (Blk w1 b1 55 [.bool f, .slice A n c, .slice B m d]) := Lib.hid (by rw [hw1, hb1]; exact Blk.new w _ [.bool f, .slice A n c, .slice B m d])
  have HXb1 : Hid (Only (w.heap.size ≤ ·) w w1) := Lib.hid (by rw [hw1]; exact (Only.refl _ w).alloc (fun _ h => h) _)
  have HEQb1 : Hid (w1 = w.alloc (.cells #[.bool f, .slice A n c, .slice B m d] 55) ∧ b1 = w.heap.size) := Lib.hid ⟨hw1, hb1⟩
  clear hw1 hb1
  have HN := Lib.hid (hN.later HXb1.out)
  clear hN hs
  obtain ⟨b, off, y0, P0, p0, rfl, hb0, _, _, _, _⟩ := kds_at HN.out.2.2 (k := 0) (by omega)
  obtain ⟨M, rfl⟩ : ∃ M, m = M + 1 := ⟨m - 1, by omega⟩
  obtain ⟨D, rfl⟩ : ∃ D, d = D + 1 := ⟨d - 1, by omega⟩
  have hM1 : 1 ≤ M := by omega
  have hMD : M ≤ D := by omega
  clear h2
  go_enter Try.func57, Try.ntmps57
  go_upto_region 1 with (fail)
  rw [← HEQb1.out.1, ← HEQb1.out.2]
  obtain ⟨q0, q1, q2⟩ := Hb1.out.tri
  go_wp2_with (fail)
  clear q0 q1 q2
  go_loopg [3, 10] M (fun gk pv iv wr => ∃ (k : Nat) (R : Option Addr) (t : Nat) (C : List Value), gk = M - k ∧ k ≤ M ∧ pv = .slice R k t ∧ iv = .int .i64 (k : Int) ∧ Hid (wr.ownsRow w1.heap.size 34 1 (.slice R k t) k C) ∧ Hid (∀ W, Only (w1.heap.size ≤ ·) w1 W → Den (byE.At W) (((x.kds.drop 1).map (·.1)).take k) C) ∧ Hid (Only (w1.heap.size ≤ ·) w1 wr))
  case atStart => exact ⟨0, none, 0, [], rfl, Nat.zero_le _, rfl, rfl, Lib.hid (World.ownsRow_nil _ _ _ _), Lib.hid (fun W _ => rfl), Lib.hid (Only.refl _ _)⟩
  case round =>
    obtain ⟨k, R, t, C, rfl, hk, rfl, rfl, HROW, HDEN, HO⟩ := hrel
    by_cases hlt : k < M
    · have hlt' : (k : Int) < (M : Int) := by omega
      obtain ⟨b', off', y, P, p, e', hb', hy, q0, q1, hs1⟩ := kds_at (HN.out.2.2.later HO.out) (k := k + 1) (by omega)
      simp only [Option.some.injEq, Addr.mk.injEq, and_true] at e'
      obtain ⟨rfl, rfl⟩ := e'
      have HY : Hid (((x.kds.drop 1).map (·.1))[k]? = some y.1) := Lib.hid (by rw [List.getElem?_map, List.getElem?_drop, Nat.add_comm, hy]; rfl)
      obtain ⟨yk, yr⟩ := y
      simp only at q0 q1 hs1 HY
      rw [show off + (k + 1) * 2 = off + 2 + k * 2 by omega] at q0 q1
      have HTK : Hid (((x.kds.drop 1).map (·.1)).take (k + 1) = ((x.kds.drop 1).map (·.1)).take k ++ [yk]) := Lib.hid (by rw [List.take_add_one, HY.out]; rfl)
      have HSY : Hid (∀ W, Only (w1.heap.size ≤ ·) w1 W → ∃ P, P = P) := Lib.hid fun W _ => ⟨0, rfl⟩
      obtain ⟨w5, hw5⟩ : ∃ x, x = wr.alloc (.cells #[.slice P yk.length p, .int .i64 yr] 97) := ⟨_, rfl⟩
      obtain ⟨b5, hb5⟩ : ∃ x, x = wr.heap.size := ⟨_, rfl⟩
      have Hb5 : Hid (Blk w5 b5 97 [.slice P yk.length p, .int .i64 yr]) := Lib.hid (by rw [hw5, hb5]; exact Blk.new wr _ [.slice P yk.length p, .int .i64 yr])
      have HXb5 : Hid (Only (wr.heap.size ≤ ·) wr w5) := Lib.hid (by rw [hw5]; exact (Only.refl _ wr).alloc (fun _ h => h) _)
      have HEQb5 : Hid (w5 = wr.alloc (.cells #[.slice P yk.length p, .int .i64 yr] 97) ∧ b5 = wr.heap.size) := Lib.hid ⟨hw5, hb5⟩
      clear hw5 hb5
      have HBL : Hid (Blk (w5.alloc (.cells #[.slice P yk.length p] 34)) w5.heap.size 34 [.slice P yk.length p]) := Lib.hid (Blk.new w5 _ [.slice P yk.length p])
      have HR5 := Lib.hid (own_later HROW.out HXb5.out)
      have HO5 := Lib.hid (on_new HO.out HXb5.out)
      have HSS := Lib.hid hs1
      have HSW : Hid (∀ W, Only (w1.heap.size ≤ ·) w1 W → Src W (.slice P yk.length p) yk) := Lib.hid (by
        have h1 := HN.out.2.2
        obtain ⟨b2, off2, y2, P2, p2, e2, _, hy2, z0, z1, ss1⟩ := kds_at h1 (k := k + 1) (by omega)
        simp only [Option.some.injEq, Addr.mk.injEq, and_true] at e2
        obtain ⟨rfl, rfl⟩ := e2
        rw [show off + (k + 1) * 2 = off + 2 + k * 2 by omega] at z0
        have e3 := (HO.out.cell (p := ⟨b, off + 2 + k * 2, none⟩) (by have := World.block_lt_of_cell? w1 _ z0; simp only at this ⊢; omega)).trans z0
        rw [q0] at e3
        rw [hy] at hy2
        cases hy2
        simp only [Option.some.injEq, Value.slice.injEq, true_and] at e3
        obtain ⟨rfl, rfl⟩ := e3
        exact fun W hW => ss1.later hW)
      clear hy hs1
      go_upto_region 5 with (fail)
      rw [← HEQb5.out.1, ← HEQb5.out.2]
      obtain ⟨c0, c1⟩ := Hb5.out.pair
      clear q0 q1
      go_wp2_with (at_builtin; go_loud (refine wpList_append_at rfl (.tmp 14) (.tmp 17) 116 rfl w1.heap.size 34 i1 (.slice none 0 0) 1 24 Try.underlying116 HI1.out.1 HI1.out.2.1 HI1.out.2.2.1 HI1.out.2.2.2 (by rfl) (by omega) (.slice R k t) k C rfl (World.ownsRow.alloc HR5.out _) ⟨w5.heap.size, 0, none⟩ 1 1 [.slice P yk.length p] rfl rfl (fun j u hu => by rw [Addr.add_lit, HBL.out.cell, Nat.zero_add]; exact hu) (by simp [Value.oneCell']) (by simp only [maxLen]; omega) (by omega) (by have := HO5.out.size; simp; omega) ?_; intro v' w' ho' hg' hat'; (obtain ⟨R2, t2, rfl, _⟩ := raw_of_own ho'); have HROW2 := Lib.hid ho'; have HOF : Hid (Only (w1.heap.size ≤ ·) w1 w') := Lib.hid ((HO5.out.alloc (fun _ h => h) (.cells #[.slice P yk.length p] 34)).grown hg' (fun _ h => h) (fun g hg => (World.ownsRow.lt HR5.out g hg).1)); clear ho' hg' hat'))
      go_roundg (M - (k + 1))
      case measure => omega
      case rel => exact ⟨k + 1, R2, t2, _, rfl, by omega, rfl, by go_num, HROW2, Lib.hid (fun W hW => by rw [HTK.out]; exact Den.append (HDEN.out W hW) (Den.single ⟨P, p, rfl, HSW.out W hW⟩)), HOF⟩
    · obtain rfl : k = M := by omega
      have hkm : ¬ (k : Int) < (k : Int) := by omega
      have HALL : Hid (((x.kds.drop 1).map (·.1)).take k = ((x.kds.drop 1).map (·.1))) := Lib.hid (by rw [List.take_of_length_le]; simp; have := HML.out; omega)
      have HLL : Hid (k = ((x.kds.drop 1).map (·.1)).length) := Lib.hid (by simp; have := HML.out; omega)
      go_wp2_with (fail)
      go_ret
      exact ⟨⟨R, k, t, rfl, Own.rw_ (E := byE) (t := 34) (B := w1.heap.size) ⟨by have := HLL.out; simpa using this, C, by have := HDEN.out wr HO.out; rw [HALL.out] at this; simpa using this, HROW.out⟩⟩, on_new HXb1.out HO.out⟩

/-- Where a node may stand. -/
def FormP (x : Nd) (dp : Int) (sp : Sn) : Prop := if x.leaf = true then x.kds = [] ∧ (x.its ≠ [] ∨ dp = 1) ∧ RisesP sp (x.its.map (·.1)) else x.its = [] ∧ 1 < x.kds.length ∧ RisesP sp ((x.kds.drop 1).map (·.1))
def FormSays (w : World) (x : Nd) (dp : Int) (sp : Sn) (e : Ending) (w' : World) : Prop := (∃ r : Bool, e = .returned (.bool r) ∧ (r = true ↔ FormP x dp sp)) ∧ Only (w.heap.size ≤ ·) w w'
set_option maxRecDepth 100000 in
set_option maxHeartbeats 12800000 in
theorem formed_c (w : World) (f : Bool) (A B L H : Option Addr) (n c m d ln lc hn hc : Nat) (b : Bool) (dp : Nat) (x : Nd) (sp : Sn) (hd1 : 1 ≤ dp) (hN : Nod w x f (.slice A n c) (.slice B m d)) (hs : Sml x) (hsp : SnV w sp (.slice L ln lc) (.slice H hn hc) b) :
    Calls Try.prog 49 #[.agg #[.bool f, .slice A n c, .slice B m d], .agg #[.int .i64 (dp : Int), .slice L ln lc, .slice H hn hc, .bool b]] w (FormSays w x dp sp) := by
  have HNL : Hid (n = x.its.length ∧ m = x.kds.length ∧ f = x.leaf) := Lib.hid ⟨hN.2.1.len, hN.2.2.len, hN.1⟩
  have HNN := Lib.hid hN
  have HSM := Lib.hid hs
  have HSN := Lib.hid hsp
  have hn1 : n ≤ 1000 := by rw [hN.2.1.len]; exact hs.1
  have hm1 : m ≤ 1000 := by rw [hN.2.2.len]; exact hs.2.1
  obtain ⟨w1, hw1⟩ : ∃ x, x = w.alloc (.cells #[.bool f, .slice A n c, .slice B m d] 55) := ⟨_, rfl⟩
  obtain ⟨b1, hb1⟩ : ∃ x, x = w.heap.size := ⟨_, rfl⟩
  have Hb1 : Hid (Blk w1 b1 55 [.bool f, .slice A n c, .slice B m d]) := Lib.hid (by rw [hw1, hb1]; exact Blk.new w _ [.bool f, .slice A n c, .slice B m d])
  have HXb1 : Hid (Only (w.heap.size ≤ ·) w w1) := Lib.hid (by rw [hw1]; exact (Only.refl _ w).alloc (fun _ h => h) _)
  have HEQb1 : Hid (w1 = w.alloc (.cells #[.bool f, .slice A n c, .slice B m d] 55) ∧ b1 = w.heap.size) := Lib.hid ⟨hw1, hb1⟩
  clear hw1 hb1
  obtain ⟨w2, hw2⟩ : ∃ x, x = w1.alloc (.cells #[.int .i64 (dp : Int), .slice L ln lc, .slice H hn hc, .bool b] 95) := ⟨_, rfl⟩
  obtain ⟨b2, hb2⟩ : ∃ x, x = w1.heap.size := ⟨_, rfl⟩
  have Hb2 : Hid (Blk w2 b2 95 [.int .i64 (dp : Int), .slice L ln lc, .slice H hn hc, .bool b]) := Lib.hid (by rw [hw2, hb2]; exact Blk.new w1 _ [.int .i64 (dp : Int), .slice L ln lc, .slice H hn hc, .bool b])
  have HXb2 : Hid (Only (w1.heap.size ≤ ·) w1 w2) := Lib.hid (by rw [hw2]; exact (Only.refl _ w1).alloc (fun _ h => h) _)
  have HEQb2 : Hid (w2 = w1.alloc (.cells #[.int .i64 (dp : Int), .slice L ln lc, .slice H hn hc, .bool b] 95) ∧ b2 = w1.heap.size) := Lib.hid ⟨hw2, hb2⟩
  clear hw2 hb2
  have HB1 := Lib.hid (Hb1.out.later HXb2.out)
  have HO := Lib.hid (on_new HXb1.out HXb2.out)
  have HB2E : Hid (b2 = b1 + 1) := Lib.hid (by rw [HEQb2.out.2, HEQb1.out.1, HEQb1.out.2]; simp)
  clear hN hs hsp
  go_enter Try.func49, Try.ntmps49
  go_upto_region 1 with (fail)
  rw [← HEQb1.out.1, ← HEQb1.out.2, ← HEQb2.out.1, ← HB2E.out]
  obtain ⟨q0, q1, q2⟩ := HB1.out.tri
  obtain ⟨r0, r1, r2, r3⟩ := Hb2.out.four
  have HD1 := Lib.hid hd1
  clear hd1
  cases f with
  | true =>
    go_upto_region 2 with (fail)
    have HLF : Hid (x.leaf = true) := Lib.hid HNL.out.2.2.symm
    cases m with
    | zero =>
      have HK0 : Hid (x.kds = []) := Lib.hid (List.length_eq_zero_iff.1 HNL.out.2.1.symm)
      cases n with
      | zero =>
        have HI0 : Hid (x.its = []) := Lib.hid (List.length_eq_zero_iff.1 HNL.out.1.symm)
        obtain ⟨E, rfl⟩ : ∃ E, dp = E + 1 := ⟨dp - 1, by have := HD1.out; omega⟩
        cases E with
        | zero =>
          have HB2 := Lib.hid Hb2.out.drew
          replace HB1 := Lib.hid HB1.out.drew
          replace HO := Lib.hid HO.out.drew
          refine wp_region_list (B := [false, false, false, false, false, false, false, false, false, false, false, false, false, false, false, false, false, false, false, false, false, false, false]) (S := (fun W => ((W.cell? ⟨b1, 0, none⟩ = some (.bool true) ∧ W.cell? ⟨b1, 1, none⟩ = some (.slice A 0 c) ∧ W.cell? ⟨b1, 2, none⟩ = some (.slice B 0 d)) ∧ W.cell? ⟨b2, 0, none⟩ = some (.int .i64 ((0 + 1 : Nat) : Int)) ∧ W.cell? ⟨b2, 1, none⟩ = some (.slice L ln lc) ∧ W.cell? ⟨b2, 2, none⟩ = some (.slice H hn hc) ∧ W.cell? ⟨b2, 3, none⟩ = some (.bool b)))) (by kernel_rfl) (by kernel_rfl) (by kernel_rfl) ⟨HB1.out.tri, HB2.out.four⟩ (fun hsel hHeld => ?_)
          generalize hwz : World.drew _ = wz at HB1 HB2 HO hHeld ⊢
          clear hwz
          refine oneA 0 7 hsel (h := ?_)
          simp only [Act.put, List.setIfInBounds_toArray, List.set_cons_zero, List.set_cons_succ]
          refine oneA 1 8 hsel (h := ?_)
          simp only [Act.put, List.setIfInBounds_toArray, List.set_cons_zero, List.set_cons_succ]
          refine oneA 2 9 hsel (h := ?_)
          simp only [Act.put, List.setIfInBounds_toArray, List.set_cons_zero, List.set_cons_succ]
          refine oneA 3 10 hsel (h := ?_)
          simp only [Act.put, List.setIfInBounds_toArray, List.set_cons_zero, List.set_cons_succ]
          refine oneA 4 11 hsel (h := ?_)
          simp only [Act.put, List.setIfInBounds_toArray, List.set_cons_zero, List.set_cons_succ]
          refine oneA 5 12 hsel (h := ?_)
          simp only [Act.put, List.setIfInBounds_toArray, List.set_cons_zero, List.set_cons_succ]
          refine oneA 6 13 hsel (h := ?_)
          simp only [Act.put, List.setIfInBounds_toArray, List.set_cons_zero, List.set_cons_succ]
          refine oneA 7 14 hsel (h := ?_)
          simp only [Act.put, List.setIfInBounds_toArray, List.set_cons_zero, List.set_cons_succ]
          refine oneA 8 15 hsel (h := ?_)
          simp only [Act.put, List.setIfInBounds_toArray, List.set_cons_zero, List.set_cons_succ]
          refine oneA 9 16 hsel (h := ?_)
          simp only [Act.put, List.setIfInBounds_toArray, List.set_cons_zero, List.set_cons_succ]
          refine oneA 10 17 hsel (h := ?_)
          simp only [Act.put, List.setIfInBounds_toArray, List.set_cons_zero, List.set_cons_succ]
          refine oneA 11 18 hsel (h := ?_)
          simp only [Act.put, List.setIfInBounds_toArray, List.set_cons_zero, List.set_cons_succ]
          refine oneA 12 19 hsel (h := ?_)
          simp only [Act.put, List.setIfInBounds_toArray, List.set_cons_zero, List.set_cons_succ]
          refine oneA 13 20 hsel (h := ?_)
          simp only [Act.put, List.setIfInBounds_toArray, List.set_cons_zero, List.set_cons_succ]
          refine oneA 14 21 hsel (h := ?_)
          simp only [Act.put, List.setIfInBounds_toArray, List.set_cons_zero, List.set_cons_succ]
          refine oneA 15 22 hsel (h := ?_)
          simp only [Act.put, List.setIfInBounds_toArray, List.set_cons_zero, List.set_cons_succ]
          refine oneA 16 23 hsel (h := ?_)
          simp only [Act.put, List.setIfInBounds_toArray, List.set_cons_zero, List.set_cons_succ]
          refine oneA 18 25 hsel (h := ?_)
          simp only [Act.put, List.setIfInBounds_toArray, List.set_cons_zero, List.set_cons_succ]
          refine oneA 19 26 hsel (h := ?_)
          simp only [Act.put, List.setIfInBounds_toArray, List.set_cons_zero, List.set_cons_succ]
          refine wpAnyL_ready (rs := [17]) (by kernel_rfl) (by kernel_rfl) (by simp) ?_
          refine AllReadyL.cons (o := ?_) ?_ (fun K hK => ?_) AllReadyL.nil
          case refine_2 => (simp only [List.getElem?_cons_succ, List.getElem?_cons_zero]; rfl)
          go_simp
          (go_at_call 56; (with_reducible refine (itemKeys_c _ true A B 0 c 0 d x (HNN.out.later HO.out) HSM.out).mono ?_); rintro ee w5 ⟨⟨R, t, rc, rfl, hbys⟩, ho⟩; have HBY := Lib.hid hbys; replace HB1 := Lib.hid (HB1.out.later ho); replace HB2 := Lib.hid (HB2.out.later ho); replace HO := Lib.hid (on_new HO.out ho); clear hbys ho)
          go_wp2_with (fail)
          clear hHeld
          refine hK.out _ _ ⟨HB1.out.tri, HB2.out.four⟩ (fun hHeld => ?_)
          clear hK K
          try simp only [List.set_cons_zero, List.set_cons_succ]
          refine wpAnyL_ready (rs := [20]) (by kernel_rfl) (by kernel_rfl) (by simp) ?_
          refine AllReadyL.cons (o := ?_) ?_ (fun K hK => ?_) AllReadyL.nil
          case refine_2 => (simp only [List.getElem?_cons_succ, List.getElem?_cons_zero]; rfl)
          go_simp
          (go_at_call 55; (with_reducible refine (Rises_c _ R L H t rc ln lc hn hc b sp _ HBY.out (HSN.out.later HO.out)).mono ?_); rintro ee w6 ⟨⟨r, rfl, hr⟩, ho⟩; have HR := Lib.hid hr; replace HB1 := Lib.hid (HB1.out.later ho); replace HB2 := Lib.hid (HB2.out.later ho); replace HO := Lib.hid (on_new HO.out ho); clear hr ho)
          go_wp2_with (fail)
          clear hHeld
          refine hK.out _ _ ⟨HB1.out.tri, HB2.out.four⟩ (fun hHeld => ?_)
          clear hK K
          try simp only [List.set_cons_zero, List.set_cons_succ]
          refine oneA 21 28 hsel (h := ?_)
          simp only [Act.put, List.setIfInBounds_toArray, List.set_cons_zero, List.set_cons_succ]
          refine oneA 22 4 hsel (h := ?_)
          simp only [Act.put, List.setIfInBounds_toArray, List.set_cons_zero, List.set_cons_succ]
          refine wpAnyL_done (by kernel_rfl) (by kernel_rfl) ?_ _
          clear hsel hHeld
          go_wp2_with (fail)
          go_ret
          exact ⟨⟨r, rfl, by unfold FormP; rw [if_pos HLF.out]; exact ⟨fun h => ⟨HK0.out, .inr rfl, HR.out.1 h⟩, fun h => HR.out.2 h.2.2⟩⟩, HO.out⟩
        | succ E =>
          have z1 : ¬ ((E : Int) + 1 + 1 = 1) := by omega
          have HB2 := Lib.hid Hb2.out.drew
          replace HB1 := Lib.hid HB1.out.drew
          replace HO := Lib.hid HO.out.drew
          refine wp_region_list (B := [false, false, false, false, false, false, false, false, false, false, false, false, false, false, false, false, false, false, false, false, false, false, false]) (S := (fun W => ((W.cell? ⟨b1, 0, none⟩ = some (.bool true) ∧ W.cell? ⟨b1, 1, none⟩ = some (.slice A 0 c) ∧ W.cell? ⟨b1, 2, none⟩ = some (.slice B 0 d)) ∧ W.cell? ⟨b2, 0, none⟩ = some (.int .i64 ((E + 1 + 1 : Nat) : Int)) ∧ W.cell? ⟨b2, 1, none⟩ = some (.slice L ln lc) ∧ W.cell? ⟨b2, 2, none⟩ = some (.slice H hn hc) ∧ W.cell? ⟨b2, 3, none⟩ = some (.bool b)))) (by kernel_rfl) (by kernel_rfl) (by kernel_rfl) ⟨HB1.out.tri, HB2.out.four⟩ (fun hsel hHeld => ?_)
          generalize hwz : World.drew _ = wz at HB1 HB2 HO hHeld ⊢
          clear hwz
          refine oneA 0 7 hsel (h := ?_)
          simp only [Act.put, List.setIfInBounds_toArray, List.set_cons_zero, List.set_cons_succ]
          refine oneA 1 8 hsel (h := ?_)
          simp only [Act.put, List.setIfInBounds_toArray, List.set_cons_zero, List.set_cons_succ]
          refine oneA 2 9 hsel (h := ?_)
          simp only [Act.put, List.setIfInBounds_toArray, List.set_cons_zero, List.set_cons_succ]
          refine oneA 3 10 hsel (h := ?_)
          simp only [Act.put, List.setIfInBounds_toArray, List.set_cons_zero, List.set_cons_succ]
          refine oneA 4 11 hsel (h := ?_)
          simp only [Act.put, List.setIfInBounds_toArray, List.set_cons_zero, List.set_cons_succ]
          refine oneA 5 12 hsel (h := ?_)
          simp only [Act.put, List.setIfInBounds_toArray, List.set_cons_zero, List.set_cons_succ]
          refine oneA 6 13 hsel (h := ?_)
          simp only [Act.put, List.setIfInBounds_toArray, List.set_cons_zero, List.set_cons_succ]
          refine oneA 7 14 hsel (h := ?_)
          simp only [Act.put, List.setIfInBounds_toArray, List.set_cons_zero, List.set_cons_succ]
          refine oneA 8 15 hsel (h := ?_)
          simp only [Act.put, List.setIfInBounds_toArray, List.set_cons_zero, List.set_cons_succ]
          refine oneA 9 16 hsel (h := ?_)
          simp only [Act.put, List.setIfInBounds_toArray, List.set_cons_zero, List.set_cons_succ]
          refine oneA 10 17 hsel (h := ?_)
          simp only [Act.put, List.setIfInBounds_toArray, List.set_cons_zero, List.set_cons_succ]
          refine oneA 11 18 hsel (h := ?_)
          simp only [Act.put, List.setIfInBounds_toArray, List.set_cons_zero, List.set_cons_succ]
          refine oneA 12 19 hsel (h := ?_)
          simp only [Act.put, List.setIfInBounds_toArray, List.set_cons_zero, List.set_cons_succ]
          refine oneA 13 20 hsel (h := ?_)
          simp only [Act.put, List.setIfInBounds_toArray, List.set_cons_zero, List.set_cons_succ]
          refine oneA 14 21 hsel (h := ?_)
          simp only [Act.put, List.setIfInBounds_toArray, List.set_cons_zero, List.set_cons_succ]
          refine oneA 15 22 hsel (h := ?_)
          simp only [Act.put, List.setIfInBounds_toArray, List.set_cons_zero, List.set_cons_succ]
          refine take_skipL (i := 16) (d := 23) (oi := ?_) ?_ hsel (by kernel_rfl) (by kernel_rfl) (fun _ _ _ h => h) ?_ ?_ (by assumption) ?_
          case refine_2 => (simp only [List.getElem?_cons_succ, List.getElem?_cons_zero]; rfl)
          case refine_3 => rfl
          case refine_4 => rfl
          simp only [Act.put, List.setIfInBounds_toArray, List.set_cons_zero, List.set_cons_succ]
          refine take_skipL (i := 17) (d := 24) (oi := ?_) ?_ hsel (by kernel_rfl) (by kernel_rfl) (fun _ _ _ h => h) ?_ ?_ (by assumption) ?_
          case refine_2 => (simp only [List.getElem?_cons_succ, List.getElem?_cons_zero]; rfl)
          case refine_3 => rfl
          case refine_4 => rfl
          simp only [Act.put, List.setIfInBounds_toArray, List.set_cons_zero, List.set_cons_succ]
          refine take_skipL (i := 18) (d := 25) (oi := ?_) ?_ hsel (by kernel_rfl) (by kernel_rfl) (fun _ _ _ h => h) ?_ ?_ (by assumption) ?_
          case refine_2 => (simp only [List.getElem?_cons_succ, List.getElem?_cons_zero]; rfl)
          case refine_3 => rfl
          case refine_4 => rfl
          simp only [Act.put, List.setIfInBounds_toArray, List.set_cons_zero, List.set_cons_succ]
          refine take_skipL (i := 19) (d := 26) (oi := ?_) ?_ hsel (by kernel_rfl) (by kernel_rfl) (fun _ _ _ h => h) ?_ ?_ (by assumption) ?_
          case refine_2 => (simp only [List.getElem?_cons_succ, List.getElem?_cons_zero]; rfl)
          case refine_3 => rfl
          case refine_4 => rfl
          simp only [Act.put, List.setIfInBounds_toArray, List.set_cons_zero, List.set_cons_succ]
          refine take_skipL (i := 20) (d := 27) (oi := ?_) ?_ hsel (by kernel_rfl) (by kernel_rfl) (fun _ _ _ h => h) ?_ ?_ (by assumption) ?_
          case refine_2 => (simp only [List.getElem?_cons_succ, List.getElem?_cons_zero]; rfl)
          case refine_3 => rfl
          case refine_4 => rfl
          simp only [Act.put, List.setIfInBounds_toArray, List.set_cons_zero, List.set_cons_succ]
          refine oneA 21 28 hsel (h := ?_)
          simp only [Act.put, List.setIfInBounds_toArray, List.set_cons_zero, List.set_cons_succ]
          refine oneA 22 4 hsel (h := ?_)
          simp only [Act.put, List.setIfInBounds_toArray, List.set_cons_zero, List.set_cons_succ]
          refine wpAnyL_done (by kernel_rfl) (by kernel_rfl) ?_ _
          clear hsel hHeld
          go_wp2_with (fail)
          go_ret
          exact ⟨⟨false, rfl, ⟨(fun h => nomatch h), fun h => by exfalso; unfold FormP at h; rw [if_pos HLF.out] at h; exact h.2.1.elim (fun h => h HI0.out) (fun h => by omega)⟩⟩, HO.out⟩
      | succ n =>
        have HN0 : Hid (x.its ≠ []) := Lib.hid (fun h => by have := HNL.out.1; rw [h] at this; simp at this)
        have z1 : (0 : Int) < (n : Int) + 1 := by omega
        have HB2 := Lib.hid Hb2.out.drew
        replace HB1 := Lib.hid HB1.out.drew
        replace HO := Lib.hid HO.out.drew
        refine wp_region_list (B := [false, false, false, false, false, false, false, false, false, false, false, false, false, false, false, false, false, false, false, false, false, false, false]) (S := (fun W => ((W.cell? ⟨b1, 0, none⟩ = some (.bool true) ∧ W.cell? ⟨b1, 1, none⟩ = some (.slice A (n + 1) c) ∧ W.cell? ⟨b1, 2, none⟩ = some (.slice B 0 d)) ∧ W.cell? ⟨b2, 0, none⟩ = some (.int .i64 ((dp : Nat) : Int)) ∧ W.cell? ⟨b2, 1, none⟩ = some (.slice L ln lc) ∧ W.cell? ⟨b2, 2, none⟩ = some (.slice H hn hc) ∧ W.cell? ⟨b2, 3, none⟩ = some (.bool b)))) (by kernel_rfl) (by kernel_rfl) (by kernel_rfl) ⟨HB1.out.tri, HB2.out.four⟩ (fun hsel hHeld => ?_)
        generalize hwz : World.drew _ = wz at HB1 HB2 HO hHeld ⊢
        clear hwz
        refine oneA 0 7 hsel (h := ?_)
        simp only [Act.put, List.setIfInBounds_toArray, List.set_cons_zero, List.set_cons_succ]
        refine oneA 1 8 hsel (h := ?_)
        simp only [Act.put, List.setIfInBounds_toArray, List.set_cons_zero, List.set_cons_succ]
        refine oneA 2 9 hsel (h := ?_)
        simp only [Act.put, List.setIfInBounds_toArray, List.set_cons_zero, List.set_cons_succ]
        refine oneA 3 10 hsel (h := ?_)
        simp only [Act.put, List.setIfInBounds_toArray, List.set_cons_zero, List.set_cons_succ]
        refine oneA 4 11 hsel (h := ?_)
        simp only [Act.put, List.setIfInBounds_toArray, List.set_cons_zero, List.set_cons_succ]
        refine oneA 5 12 hsel (h := ?_)
        simp only [Act.put, List.setIfInBounds_toArray, List.set_cons_zero, List.set_cons_succ]
        refine oneA 6 13 hsel (h := ?_)
        simp only [Act.put, List.setIfInBounds_toArray, List.set_cons_zero, List.set_cons_succ]
        refine oneA 7 14 hsel (h := ?_)
        simp only [Act.put, List.setIfInBounds_toArray, List.set_cons_zero, List.set_cons_succ]
        refine oneA 8 15 hsel (h := ?_)
        simp only [Act.put, List.setIfInBounds_toArray, List.set_cons_zero, List.set_cons_succ]
        refine oneA 9 16 hsel (h := ?_)
        simp only [Act.put, List.setIfInBounds_toArray, List.set_cons_zero, List.set_cons_succ]
        refine take_skipL (i := 10) (d := 17) (oi := ?_) ?_ hsel (by kernel_rfl) (by kernel_rfl) (fun _ _ _ h => h) ?_ ?_ (by assumption) ?_
        case refine_2 => (simp only [List.getElem?_cons_succ, List.getElem?_cons_zero]; rfl)
        case refine_3 => rfl
        case refine_4 => rfl
        simp only [Act.put, List.setIfInBounds_toArray, List.set_cons_zero, List.set_cons_succ]
        refine take_skipL (i := 11) (d := 18) (oi := ?_) ?_ hsel (by kernel_rfl) (by kernel_rfl) (fun _ _ _ h => h) ?_ ?_ (by assumption) ?_
        case refine_2 => (simp only [List.getElem?_cons_succ, List.getElem?_cons_zero]; rfl)
        case refine_3 => rfl
        case refine_4 => rfl
        simp only [Act.put, List.setIfInBounds_toArray, List.set_cons_zero, List.set_cons_succ]
        refine take_skipL (i := 12) (d := 19) (oi := ?_) ?_ hsel (by kernel_rfl) (by kernel_rfl) (fun _ _ _ h => h) ?_ ?_ (by assumption) ?_
        case refine_2 => (simp only [List.getElem?_cons_succ, List.getElem?_cons_zero]; rfl)
        case refine_3 => rfl
        case refine_4 => rfl
        simp only [Act.put, List.setIfInBounds_toArray, List.set_cons_zero, List.set_cons_succ]
        refine oneA 13 20 hsel (h := ?_)
        simp only [Act.put, List.setIfInBounds_toArray, List.set_cons_zero, List.set_cons_succ]
        refine oneA 14 21 hsel (h := ?_)
        simp only [Act.put, List.setIfInBounds_toArray, List.set_cons_zero, List.set_cons_succ]
        refine oneA 15 22 hsel (h := ?_)
        simp only [Act.put, List.setIfInBounds_toArray, List.set_cons_zero, List.set_cons_succ]
        refine oneA 16 23 hsel (h := ?_)
        simp only [Act.put, List.setIfInBounds_toArray, List.set_cons_zero, List.set_cons_succ]
        refine oneA 18 25 hsel (h := ?_)
        simp only [Act.put, List.setIfInBounds_toArray, List.set_cons_zero, List.set_cons_succ]
        refine oneA 19 26 hsel (h := ?_)
        simp only [Act.put, List.setIfInBounds_toArray, List.set_cons_zero, List.set_cons_succ]
        refine wpAnyL_ready (rs := [17]) (by kernel_rfl) (by kernel_rfl) (by simp) ?_
        refine AllReadyL.cons (o := ?_) ?_ (fun K hK => ?_) AllReadyL.nil
        case refine_2 => (simp only [List.getElem?_cons_succ, List.getElem?_cons_zero]; rfl)
        go_simp
        (go_at_call 56; (with_reducible refine (itemKeys_c _ true A B (n + 1) c 0 d x (HNN.out.later HO.out) HSM.out).mono ?_); rintro ee w5 ⟨⟨R, t, rc, rfl, hbys⟩, ho⟩; have HBY := Lib.hid hbys; replace HB1 := Lib.hid (HB1.out.later ho); replace HB2 := Lib.hid (HB2.out.later ho); replace HO := Lib.hid (on_new HO.out ho); clear hbys ho)
        go_wp2_with (fail)
        clear hHeld
        refine hK.out _ _ ⟨HB1.out.tri, HB2.out.four⟩ (fun hHeld => ?_)
        clear hK K
        try simp only [List.set_cons_zero, List.set_cons_succ]
        refine wpAnyL_ready (rs := [20]) (by kernel_rfl) (by kernel_rfl) (by simp) ?_
        refine AllReadyL.cons (o := ?_) ?_ (fun K hK => ?_) AllReadyL.nil
        case refine_2 => (simp only [List.getElem?_cons_succ, List.getElem?_cons_zero]; rfl)
        go_simp
        (go_at_call 55; (with_reducible refine (Rises_c _ R L H t rc ln lc hn hc b sp _ HBY.out (HSN.out.later HO.out)).mono ?_); rintro ee w6 ⟨⟨r, rfl, hr⟩, ho⟩; have HR := Lib.hid hr; replace HB1 := Lib.hid (HB1.out.later ho); replace HB2 := Lib.hid (HB2.out.later ho); replace HO := Lib.hid (on_new HO.out ho); clear hr ho)
        go_wp2_with (fail)
        clear hHeld
        refine hK.out _ _ ⟨HB1.out.tri, HB2.out.four⟩ (fun hHeld => ?_)
        clear hK K
        try simp only [List.set_cons_zero, List.set_cons_succ]
        refine oneA 21 28 hsel (h := ?_)
        simp only [Act.put, List.setIfInBounds_toArray, List.set_cons_zero, List.set_cons_succ]
        refine oneA 22 4 hsel (h := ?_)
        simp only [Act.put, List.setIfInBounds_toArray, List.set_cons_zero, List.set_cons_succ]
        refine wpAnyL_done (by kernel_rfl) (by kernel_rfl) ?_ _
        clear hsel hHeld
        go_wp2_with (fail)
        go_ret
        exact ⟨⟨r, rfl, by unfold FormP; rw [if_pos HLF.out]; exact ⟨fun h => ⟨HK0.out, .inl HN0.out, HR.out.1 h⟩, fun h => HR.out.2 h.2.2⟩⟩, HO.out⟩
    | succ m =>
      have HK0 : Hid (x.kds ≠ []) := Lib.hid (fun h => by have := HNL.out.2.1; rw [h] at this; simp at this)
      have z1 : ¬ ((m : Int) + 1 = 0) := by omega
      have HB2 := Lib.hid Hb2.out.drew
      replace HB1 := Lib.hid HB1.out.drew
      replace HO := Lib.hid HO.out.drew
      refine wp_region_list (B := [false, false, false, false, false, false, false, false, false, false, false, false, false, false, false, false, false, false, false, false, false, false, false]) (S := (fun W => ((W.cell? ⟨b1, 0, none⟩ = some (.bool true) ∧ W.cell? ⟨b1, 1, none⟩ = some (.slice A n c) ∧ W.cell? ⟨b1, 2, none⟩ = some (.slice B (m + 1) d)) ∧ W.cell? ⟨b2, 0, none⟩ = some (.int .i64 ((dp : Nat) : Int)) ∧ W.cell? ⟨b2, 1, none⟩ = some (.slice L ln lc) ∧ W.cell? ⟨b2, 2, none⟩ = some (.slice H hn hc) ∧ W.cell? ⟨b2, 3, none⟩ = some (.bool b)))) (by kernel_rfl) (by kernel_rfl) (by kernel_rfl) ⟨HB1.out.tri, HB2.out.four⟩ (fun hsel hHeld => ?_)
      generalize hwz : World.drew _ = wz at HB1 HB2 HO hHeld ⊢
      clear hwz
      refine oneA 0 7 hsel (h := ?_)
      simp only [Act.put, List.setIfInBounds_toArray, List.set_cons_zero, List.set_cons_succ]
      refine oneA 1 8 hsel (h := ?_)
      simp only [Act.put, List.setIfInBounds_toArray, List.set_cons_zero, List.set_cons_succ]
      refine oneA 2 9 hsel (h := ?_)
      simp only [Act.put, List.setIfInBounds_toArray, List.set_cons_zero, List.set_cons_succ]
      refine oneA 3 10 hsel (h := ?_)
      simp only [Act.put, List.setIfInBounds_toArray, List.set_cons_zero, List.set_cons_succ]
      refine oneA 4 11 hsel (h := ?_)
      simp only [Act.put, List.setIfInBounds_toArray, List.set_cons_zero, List.set_cons_succ]
      refine take_skipL (i := 5) (d := 12) (oi := ?_) ?_ hsel (by kernel_rfl) (by kernel_rfl) (fun _ _ _ h => h) ?_ ?_ (by assumption) ?_
      case refine_2 => (simp only [List.getElem?_cons_succ, List.getElem?_cons_zero]; rfl)
      case refine_3 => rfl
      case refine_4 => rfl
      simp only [Act.put, List.setIfInBounds_toArray, List.set_cons_zero, List.set_cons_succ]
      refine take_skipL (i := 6) (d := 13) (oi := ?_) ?_ hsel (by kernel_rfl) (by kernel_rfl) (fun _ _ _ h => h) ?_ ?_ (by assumption) ?_
      case refine_2 => (simp only [List.getElem?_cons_succ, List.getElem?_cons_zero]; rfl)
      case refine_3 => rfl
      case refine_4 => rfl
      simp only [Act.put, List.setIfInBounds_toArray, List.set_cons_zero, List.set_cons_succ]
      refine take_skipL (i := 7) (d := 14) (oi := ?_) ?_ hsel (by kernel_rfl) (by kernel_rfl) (fun _ _ _ h => h) ?_ ?_ (by assumption) ?_
      case refine_2 => (simp only [List.getElem?_cons_succ, List.getElem?_cons_zero]; rfl)
      case refine_3 => rfl
      case refine_4 => rfl
      simp only [Act.put, List.setIfInBounds_toArray, List.set_cons_zero, List.set_cons_succ]
      refine take_skipL (i := 8) (d := 15) (oi := ?_) ?_ hsel (by kernel_rfl) (by kernel_rfl) (fun _ _ _ h => h) ?_ ?_ (by assumption) ?_
      case refine_2 => (simp only [List.getElem?_cons_succ, List.getElem?_cons_zero]; rfl)
      case refine_3 => rfl
      case refine_4 => rfl
      simp only [Act.put, List.setIfInBounds_toArray, List.set_cons_zero, List.set_cons_succ]
      refine take_skipL (i := 9) (d := 16) (oi := ?_) ?_ hsel (by kernel_rfl) (by kernel_rfl) (fun _ _ _ h => h) ?_ ?_ (by assumption) ?_
      case refine_2 => (simp only [List.getElem?_cons_succ, List.getElem?_cons_zero]; rfl)
      case refine_3 => rfl
      case refine_4 => rfl
      simp only [Act.put, List.setIfInBounds_toArray, List.set_cons_zero, List.set_cons_succ]
      refine take_skipL (i := 10) (d := 17) (oi := ?_) ?_ hsel (by kernel_rfl) (by kernel_rfl) (fun _ _ _ h => h) ?_ ?_ (by assumption) ?_
      case refine_2 => (simp only [List.getElem?_cons_succ, List.getElem?_cons_zero]; rfl)
      case refine_3 => rfl
      case refine_4 => rfl
      simp only [Act.put, List.setIfInBounds_toArray, List.set_cons_zero, List.set_cons_succ]
      refine take_skipL (i := 11) (d := 18) (oi := ?_) ?_ hsel (by kernel_rfl) (by kernel_rfl) (fun _ _ _ h => h) ?_ ?_ (by assumption) ?_
      case refine_2 => (simp only [List.getElem?_cons_succ, List.getElem?_cons_zero]; rfl)
      case refine_3 => rfl
      case refine_4 => rfl
      simp only [Act.put, List.setIfInBounds_toArray, List.set_cons_zero, List.set_cons_succ]
      refine take_skipL (i := 12) (d := 19) (oi := ?_) ?_ hsel (by kernel_rfl) (by kernel_rfl) (fun _ _ _ h => h) ?_ ?_ (by assumption) ?_
      case refine_2 => (simp only [List.getElem?_cons_succ, List.getElem?_cons_zero]; rfl)
      case refine_3 => rfl
      case refine_4 => rfl
      simp only [Act.put, List.setIfInBounds_toArray, List.set_cons_zero, List.set_cons_succ]
      refine take_skipL (i := 13) (d := 20) (oi := ?_) ?_ hsel (by kernel_rfl) (by kernel_rfl) (fun _ _ _ h => h) ?_ ?_ (by assumption) ?_
      case refine_2 => (simp only [List.getElem?_cons_succ, List.getElem?_cons_zero]; rfl)
      case refine_3 => rfl
      case refine_4 => rfl
      simp only [Act.put, List.setIfInBounds_toArray, List.set_cons_zero, List.set_cons_succ]
      refine oneA 14 21 hsel (h := ?_)
      simp only [Act.put, List.setIfInBounds_toArray, List.set_cons_zero, List.set_cons_succ]
      refine oneA 15 22 hsel (h := ?_)
      simp only [Act.put, List.setIfInBounds_toArray, List.set_cons_zero, List.set_cons_succ]
      refine take_skipL (i := 16) (d := 23) (oi := ?_) ?_ hsel (by kernel_rfl) (by kernel_rfl) (fun _ _ _ h => h) ?_ ?_ (by assumption) ?_
      case refine_2 => (simp only [List.getElem?_cons_succ, List.getElem?_cons_zero]; rfl)
      case refine_3 => rfl
      case refine_4 => rfl
      simp only [Act.put, List.setIfInBounds_toArray, List.set_cons_zero, List.set_cons_succ]
      refine take_skipL (i := 17) (d := 24) (oi := ?_) ?_ hsel (by kernel_rfl) (by kernel_rfl) (fun _ _ _ h => h) ?_ ?_ (by assumption) ?_
      case refine_2 => (simp only [List.getElem?_cons_succ, List.getElem?_cons_zero]; rfl)
      case refine_3 => rfl
      case refine_4 => rfl
      simp only [Act.put, List.setIfInBounds_toArray, List.set_cons_zero, List.set_cons_succ]
      refine take_skipL (i := 18) (d := 25) (oi := ?_) ?_ hsel (by kernel_rfl) (by kernel_rfl) (fun _ _ _ h => h) ?_ ?_ (by assumption) ?_
      case refine_2 => (simp only [List.getElem?_cons_succ, List.getElem?_cons_zero]; rfl)
      case refine_3 => rfl
      case refine_4 => rfl
      simp only [Act.put, List.setIfInBounds_toArray, List.set_cons_zero, List.set_cons_succ]
      refine take_skipL (i := 19) (d := 26) (oi := ?_) ?_ hsel (by kernel_rfl) (by kernel_rfl) (fun _ _ _ h => h) ?_ ?_ (by assumption) ?_
      case refine_2 => (simp only [List.getElem?_cons_succ, List.getElem?_cons_zero]; rfl)
      case refine_3 => rfl
      case refine_4 => rfl
      simp only [Act.put, List.setIfInBounds_toArray, List.set_cons_zero, List.set_cons_succ]
      refine take_skipL (i := 20) (d := 27) (oi := ?_) ?_ hsel (by kernel_rfl) (by kernel_rfl) (fun _ _ _ h => h) ?_ ?_ (by assumption) ?_
      case refine_2 => (simp only [List.getElem?_cons_succ, List.getElem?_cons_zero]; rfl)
      case refine_3 => rfl
      case refine_4 => rfl
      simp only [Act.put, List.setIfInBounds_toArray, List.set_cons_zero, List.set_cons_succ]
      refine oneA 21 28 hsel (h := ?_)
      simp only [Act.put, List.setIfInBounds_toArray, List.set_cons_zero, List.set_cons_succ]
      refine oneA 22 4 hsel (h := ?_)
      simp only [Act.put, List.setIfInBounds_toArray, List.set_cons_zero, List.set_cons_succ]
      refine wpAnyL_done (by kernel_rfl) (by kernel_rfl) ?_ _
      clear hsel hHeld
      go_wp2_with (fail)
      go_ret
      exact ⟨⟨false, rfl, ⟨(fun h => nomatch h), fun h => by exfalso; unfold FormP at h; rw [if_pos HLF.out] at h; exact HK0.out h.1⟩⟩, HO.out⟩
  | false =>
    go_upto_region 3 with (fail)
    have HLF : Hid (¬ x.leaf = true) := Lib.hid (fun h => by rw [← HNL.out.2.2] at h; cases h)
    cases n with
    | zero =>
      have HI0 : Hid (x.its = []) := Lib.hid (List.length_eq_zero_iff.1 HNL.out.1.symm)
      cases m with
      | zero =>
        have HB2 := Lib.hid Hb2.out.drew
        replace HB1 := Lib.hid HB1.out.drew
        replace HO := Lib.hid HO.out.drew
        refine wp_region_list (B := [false, false, false, false, false, false, false, false, false, false, false, false, false, false, false, false, false, false]) (S := (fun W => ((W.cell? ⟨b1, 0, none⟩ = some (.bool false) ∧ W.cell? ⟨b1, 1, none⟩ = some (.slice A 0 c) ∧ W.cell? ⟨b1, 2, none⟩ = some (.slice B 0 d)) ∧ W.cell? ⟨b2, 0, none⟩ = some (.int .i64 ((dp : Nat) : Int)) ∧ W.cell? ⟨b2, 1, none⟩ = some (.slice L ln lc) ∧ W.cell? ⟨b2, 2, none⟩ = some (.slice H hn hc) ∧ W.cell? ⟨b2, 3, none⟩ = some (.bool b)))) (by kernel_rfl) (by kernel_rfl) (by kernel_rfl) ⟨HB1.out.tri, HB2.out.four⟩ (fun hsel hHeld => ?_)
        generalize hwz : World.drew _ = wz at HB1 HB2 HO hHeld ⊢
        clear hwz
        refine oneA 0 29 hsel (h := ?_)
        simp only [Act.put, List.setIfInBounds_toArray, List.set_cons_zero, List.set_cons_succ]
        refine oneA 1 30 hsel (h := ?_)
        simp only [Act.put, List.setIfInBounds_toArray, List.set_cons_zero, List.set_cons_succ]
        refine oneA 2 31 hsel (h := ?_)
        simp only [Act.put, List.setIfInBounds_toArray, List.set_cons_zero, List.set_cons_succ]
        refine oneA 3 32 hsel (h := ?_)
        simp only [Act.put, List.setIfInBounds_toArray, List.set_cons_zero, List.set_cons_succ]
        refine oneA 4 33 hsel (h := ?_)
        simp only [Act.put, List.setIfInBounds_toArray, List.set_cons_zero, List.set_cons_succ]
        refine oneA 5 34 hsel (h := ?_)
        simp only [Act.put, List.setIfInBounds_toArray, List.set_cons_zero, List.set_cons_succ]
        refine oneA 6 35 hsel (h := ?_)
        simp only [Act.put, List.setIfInBounds_toArray, List.set_cons_zero, List.set_cons_succ]
        refine oneA 7 36 hsel (h := ?_)
        simp only [Act.put, List.setIfInBounds_toArray, List.set_cons_zero, List.set_cons_succ]
        refine oneA 8 37 hsel (h := ?_)
        simp only [Act.put, List.setIfInBounds_toArray, List.set_cons_zero, List.set_cons_succ]
        refine oneA 9 38 hsel (h := ?_)
        simp only [Act.put, List.setIfInBounds_toArray, List.set_cons_zero, List.set_cons_succ]
        refine oneA 10 39 hsel (h := ?_)
        simp only [Act.put, List.setIfInBounds_toArray, List.set_cons_zero, List.set_cons_succ]
        refine take_skipL (i := 11) (d := 40) (oi := ?_) ?_ hsel (by kernel_rfl) (by kernel_rfl) (fun _ _ _ h => h) ?_ ?_ (by assumption) ?_
        case refine_2 => (simp only [List.getElem?_cons_succ, List.getElem?_cons_zero]; rfl)
        case refine_3 => rfl
        case refine_4 => rfl
        simp only [Act.put, List.setIfInBounds_toArray, List.set_cons_zero, List.set_cons_succ]
        refine take_skipL (i := 12) (d := 41) (oi := ?_) ?_ hsel (by kernel_rfl) (by kernel_rfl) (fun _ _ _ h => h) ?_ ?_ (by assumption) ?_
        case refine_2 => (simp only [List.getElem?_cons_succ, List.getElem?_cons_zero]; rfl)
        case refine_3 => rfl
        case refine_4 => rfl
        simp only [Act.put, List.setIfInBounds_toArray, List.set_cons_zero, List.set_cons_succ]
        refine take_skipL (i := 13) (d := 42) (oi := ?_) ?_ hsel (by kernel_rfl) (by kernel_rfl) (fun _ _ _ h => h) ?_ ?_ (by assumption) ?_
        case refine_2 => (simp only [List.getElem?_cons_succ, List.getElem?_cons_zero]; rfl)
        case refine_3 => rfl
        case refine_4 => rfl
        simp only [Act.put, List.setIfInBounds_toArray, List.set_cons_zero, List.set_cons_succ]
        refine take_skipL (i := 14) (d := 43) (oi := ?_) ?_ hsel (by kernel_rfl) (by kernel_rfl) (fun _ _ _ h => h) ?_ ?_ (by assumption) ?_
        case refine_2 => (simp only [List.getElem?_cons_succ, List.getElem?_cons_zero]; rfl)
        case refine_3 => rfl
        case refine_4 => rfl
        simp only [Act.put, List.setIfInBounds_toArray, List.set_cons_zero, List.set_cons_succ]
        refine take_skipL (i := 15) (d := 44) (oi := ?_) ?_ hsel (by kernel_rfl) (by kernel_rfl) (fun _ _ _ h => h) ?_ ?_ (by assumption) ?_
        case refine_2 => (simp only [List.getElem?_cons_succ, List.getElem?_cons_zero]; rfl)
        case refine_3 => rfl
        case refine_4 => rfl
        simp only [Act.put, List.setIfInBounds_toArray, List.set_cons_zero, List.set_cons_succ]
        refine oneA 16 45 hsel (h := ?_)
        simp only [Act.put, List.setIfInBounds_toArray, List.set_cons_zero, List.set_cons_succ]
        refine oneA 17 4 hsel (h := ?_)
        simp only [Act.put, List.setIfInBounds_toArray, List.set_cons_zero, List.set_cons_succ]
        refine wpAnyL_done (by kernel_rfl) (by kernel_rfl) ?_ _
        clear hsel hHeld
        go_wp2_with (fail)
        go_ret
        exact ⟨⟨false, rfl, ⟨(fun h => nomatch h), fun h => by exfalso; unfold FormP at h; rw [if_neg HLF.out] at h; have h2 := h.2.1; rw [← HNL.out.2.1] at h2; omega⟩⟩, HO.out⟩
      | succ m =>
        cases m with
        | zero =>
          have HB2 := Lib.hid Hb2.out.drew
          replace HB1 := Lib.hid HB1.out.drew
          replace HO := Lib.hid HO.out.drew
          refine wp_region_list (B := [false, false, false, false, false, false, false, false, false, false, false, false, false, false, false, false, false, false]) (S := (fun W => ((W.cell? ⟨b1, 0, none⟩ = some (.bool false) ∧ W.cell? ⟨b1, 1, none⟩ = some (.slice A 0 c) ∧ W.cell? ⟨b1, 2, none⟩ = some (.slice B (0 + 1) d)) ∧ W.cell? ⟨b2, 0, none⟩ = some (.int .i64 ((dp : Nat) : Int)) ∧ W.cell? ⟨b2, 1, none⟩ = some (.slice L ln lc) ∧ W.cell? ⟨b2, 2, none⟩ = some (.slice H hn hc) ∧ W.cell? ⟨b2, 3, none⟩ = some (.bool b)))) (by kernel_rfl) (by kernel_rfl) (by kernel_rfl) ⟨HB1.out.tri, HB2.out.four⟩ (fun hsel hHeld => ?_)
          generalize hwz : World.drew _ = wz at HB1 HB2 HO hHeld ⊢
          clear hwz
          refine oneA 0 29 hsel (h := ?_)
          simp only [Act.put, List.setIfInBounds_toArray, List.set_cons_zero, List.set_cons_succ]
          refine oneA 1 30 hsel (h := ?_)
          simp only [Act.put, List.setIfInBounds_toArray, List.set_cons_zero, List.set_cons_succ]
          refine oneA 2 31 hsel (h := ?_)
          simp only [Act.put, List.setIfInBounds_toArray, List.set_cons_zero, List.set_cons_succ]
          refine oneA 3 32 hsel (h := ?_)
          simp only [Act.put, List.setIfInBounds_toArray, List.set_cons_zero, List.set_cons_succ]
          refine oneA 4 33 hsel (h := ?_)
          simp only [Act.put, List.setIfInBounds_toArray, List.set_cons_zero, List.set_cons_succ]
          refine oneA 5 34 hsel (h := ?_)
          simp only [Act.put, List.setIfInBounds_toArray, List.set_cons_zero, List.set_cons_succ]
          refine oneA 6 35 hsel (h := ?_)
          simp only [Act.put, List.setIfInBounds_toArray, List.set_cons_zero, List.set_cons_succ]
          refine oneA 7 36 hsel (h := ?_)
          simp only [Act.put, List.setIfInBounds_toArray, List.set_cons_zero, List.set_cons_succ]
          refine oneA 8 37 hsel (h := ?_)
          simp only [Act.put, List.setIfInBounds_toArray, List.set_cons_zero, List.set_cons_succ]
          refine oneA 9 38 hsel (h := ?_)
          simp only [Act.put, List.setIfInBounds_toArray, List.set_cons_zero, List.set_cons_succ]
          refine oneA 10 39 hsel (h := ?_)
          simp only [Act.put, List.setIfInBounds_toArray, List.set_cons_zero, List.set_cons_succ]
          refine take_skipL (i := 11) (d := 40) (oi := ?_) ?_ hsel (by kernel_rfl) (by kernel_rfl) (fun _ _ _ h => h) ?_ ?_ (by assumption) ?_
          case refine_2 => (simp only [List.getElem?_cons_succ, List.getElem?_cons_zero]; rfl)
          case refine_3 => rfl
          case refine_4 => rfl
          simp only [Act.put, List.setIfInBounds_toArray, List.set_cons_zero, List.set_cons_succ]
          refine take_skipL (i := 12) (d := 41) (oi := ?_) ?_ hsel (by kernel_rfl) (by kernel_rfl) (fun _ _ _ h => h) ?_ ?_ (by assumption) ?_
          case refine_2 => (simp only [List.getElem?_cons_succ, List.getElem?_cons_zero]; rfl)
          case refine_3 => rfl
          case refine_4 => rfl
          simp only [Act.put, List.setIfInBounds_toArray, List.set_cons_zero, List.set_cons_succ]
          refine take_skipL (i := 13) (d := 42) (oi := ?_) ?_ hsel (by kernel_rfl) (by kernel_rfl) (fun _ _ _ h => h) ?_ ?_ (by assumption) ?_
          case refine_2 => (simp only [List.getElem?_cons_succ, List.getElem?_cons_zero]; rfl)
          case refine_3 => rfl
          case refine_4 => rfl
          simp only [Act.put, List.setIfInBounds_toArray, List.set_cons_zero, List.set_cons_succ]
          refine take_skipL (i := 14) (d := 43) (oi := ?_) ?_ hsel (by kernel_rfl) (by kernel_rfl) (fun _ _ _ h => h) ?_ ?_ (by assumption) ?_
          case refine_2 => (simp only [List.getElem?_cons_succ, List.getElem?_cons_zero]; rfl)
          case refine_3 => rfl
          case refine_4 => rfl
          simp only [Act.put, List.setIfInBounds_toArray, List.set_cons_zero, List.set_cons_succ]
          refine take_skipL (i := 15) (d := 44) (oi := ?_) ?_ hsel (by kernel_rfl) (by kernel_rfl) (fun _ _ _ h => h) ?_ ?_ (by assumption) ?_
          case refine_2 => (simp only [List.getElem?_cons_succ, List.getElem?_cons_zero]; rfl)
          case refine_3 => rfl
          case refine_4 => rfl
          simp only [Act.put, List.setIfInBounds_toArray, List.set_cons_zero, List.set_cons_succ]
          refine oneA 16 45 hsel (h := ?_)
          simp only [Act.put, List.setIfInBounds_toArray, List.set_cons_zero, List.set_cons_succ]
          refine oneA 17 4 hsel (h := ?_)
          simp only [Act.put, List.setIfInBounds_toArray, List.set_cons_zero, List.set_cons_succ]
          refine wpAnyL_done (by kernel_rfl) (by kernel_rfl) ?_ _
          clear hsel hHeld
          go_wp2_with (fail)
          go_ret
          exact ⟨⟨false, rfl, ⟨(fun h => nomatch h), fun h => by exfalso; unfold FormP at h; rw [if_neg HLF.out] at h; have h2 := h.2.1; rw [← HNL.out.2.1] at h2; omega⟩⟩, HO.out⟩
        | succ m =>
          have z1 : (1 : Int) < (m : Int) + 1 + 1 := by omega
          have HB2 := Lib.hid Hb2.out.drew
          replace HB1 := Lib.hid HB1.out.drew
          replace HO := Lib.hid HO.out.drew
          refine wp_region_list (B := [false, false, false, false, false, false, false, false, false, false, false, false, false, false, false, false, false, false]) (S := (fun W => ((W.cell? ⟨b1, 0, none⟩ = some (.bool false) ∧ W.cell? ⟨b1, 1, none⟩ = some (.slice A 0 c) ∧ W.cell? ⟨b1, 2, none⟩ = some (.slice B (m + 1 + 1) d)) ∧ W.cell? ⟨b2, 0, none⟩ = some (.int .i64 ((dp : Nat) : Int)) ∧ W.cell? ⟨b2, 1, none⟩ = some (.slice L ln lc) ∧ W.cell? ⟨b2, 2, none⟩ = some (.slice H hn hc) ∧ W.cell? ⟨b2, 3, none⟩ = some (.bool b)))) (by kernel_rfl) (by kernel_rfl) (by kernel_rfl) ⟨HB1.out.tri, HB2.out.four⟩ (fun hsel hHeld => ?_)
          generalize hwz : World.drew _ = wz at HB1 HB2 HO hHeld ⊢
          clear hwz
          refine oneA 0 29 hsel (h := ?_)
          simp only [Act.put, List.setIfInBounds_toArray, List.set_cons_zero, List.set_cons_succ]
          refine oneA 1 30 hsel (h := ?_)
          simp only [Act.put, List.setIfInBounds_toArray, List.set_cons_zero, List.set_cons_succ]
          refine oneA 2 31 hsel (h := ?_)
          simp only [Act.put, List.setIfInBounds_toArray, List.set_cons_zero, List.set_cons_succ]
          refine oneA 3 32 hsel (h := ?_)
          simp only [Act.put, List.setIfInBounds_toArray, List.set_cons_zero, List.set_cons_succ]
          refine oneA 4 33 hsel (h := ?_)
          simp only [Act.put, List.setIfInBounds_toArray, List.set_cons_zero, List.set_cons_succ]
          refine oneA 5 34 hsel (h := ?_)
          simp only [Act.put, List.setIfInBounds_toArray, List.set_cons_zero, List.set_cons_succ]
          refine oneA 6 35 hsel (h := ?_)
          simp only [Act.put, List.setIfInBounds_toArray, List.set_cons_zero, List.set_cons_succ]
          refine oneA 7 36 hsel (h := ?_)
          simp only [Act.put, List.setIfInBounds_toArray, List.set_cons_zero, List.set_cons_succ]
          refine oneA 8 37 hsel (h := ?_)
          simp only [Act.put, List.setIfInBounds_toArray, List.set_cons_zero, List.set_cons_succ]
          refine oneA 9 38 hsel (h := ?_)
          simp only [Act.put, List.setIfInBounds_toArray, List.set_cons_zero, List.set_cons_succ]
          refine oneA 10 39 hsel (h := ?_)
          simp only [Act.put, List.setIfInBounds_toArray, List.set_cons_zero, List.set_cons_succ]
          refine oneA 11 40 hsel (h := ?_)
          simp only [Act.put, List.setIfInBounds_toArray, List.set_cons_zero, List.set_cons_succ]
          refine oneA 13 42 hsel (h := ?_)
          simp only [Act.put, List.setIfInBounds_toArray, List.set_cons_zero, List.set_cons_succ]
          refine oneA 14 43 hsel (h := ?_)
          simp only [Act.put, List.setIfInBounds_toArray, List.set_cons_zero, List.set_cons_succ]
          refine wpAnyL_ready (rs := [12]) (by kernel_rfl) (by kernel_rfl) (by simp) ?_
          refine AllReadyL.cons (o := ?_) ?_ (fun K hK => ?_) AllReadyL.nil
          case refine_2 => (simp only [List.getElem?_cons_succ, List.getElem?_cons_zero]; rfl)
          go_simp
          (go_at_call 57; (with_reducible refine (kidKeys_c _ false A B 0 c (m + 1 + 1) d x (HNN.out.later HO.out) HSM.out (by omega)).mono ?_); rintro ee w5 ⟨⟨R, t, rc, rfl, hbys⟩, ho⟩; have HBY := Lib.hid hbys; replace HB1 := Lib.hid (HB1.out.later ho); replace HB2 := Lib.hid (HB2.out.later ho); replace HO := Lib.hid (on_new HO.out ho); clear hbys ho)
          go_wp2_with (fail)
          clear hHeld
          refine hK.out _ _ ⟨HB1.out.tri, HB2.out.four⟩ (fun hHeld => ?_)
          clear hK K
          try simp only [List.set_cons_zero, List.set_cons_succ]
          refine wpAnyL_ready (rs := [15]) (by kernel_rfl) (by kernel_rfl) (by simp) ?_
          refine AllReadyL.cons (o := ?_) ?_ (fun K hK => ?_) AllReadyL.nil
          case refine_2 => (simp only [List.getElem?_cons_succ, List.getElem?_cons_zero]; rfl)
          go_simp
          (go_at_call 55; (with_reducible refine (Rises_c _ R L H t rc ln lc hn hc b sp _ HBY.out (HSN.out.later HO.out)).mono ?_); rintro ee w6 ⟨⟨r, rfl, hr⟩, ho⟩; have HR := Lib.hid hr; replace HB1 := Lib.hid (HB1.out.later ho); replace HB2 := Lib.hid (HB2.out.later ho); replace HO := Lib.hid (on_new HO.out ho); clear hr ho)
          go_wp2_with (fail)
          clear hHeld
          refine hK.out _ _ ⟨HB1.out.tri, HB2.out.four⟩ (fun hHeld => ?_)
          clear hK K
          try simp only [List.set_cons_zero, List.set_cons_succ]
          refine oneA 16 45 hsel (h := ?_)
          simp only [Act.put, List.setIfInBounds_toArray, List.set_cons_zero, List.set_cons_succ]
          refine oneA 17 4 hsel (h := ?_)
          simp only [Act.put, List.setIfInBounds_toArray, List.set_cons_zero, List.set_cons_succ]
          refine wpAnyL_done (by kernel_rfl) (by kernel_rfl) ?_ _
          clear hsel hHeld
          go_wp2_with (fail)
          go_ret
          exact ⟨⟨r, rfl, by unfold FormP; rw [if_neg HLF.out]; exact ⟨fun h => ⟨HI0.out, by rw [← HNL.out.2.1]; omega, HR.out.1 h⟩, fun h => HR.out.2 h.2.2⟩⟩, HO.out⟩
    | succ n =>
      have HN0 : Hid (x.its ≠ []) := Lib.hid (fun h => by have := HNL.out.1; rw [h] at this; simp at this)
      have z1 : ¬ ((n : Int) + 1 = 0) := by omega
      have HB2 := Lib.hid Hb2.out.drew
      replace HB1 := Lib.hid HB1.out.drew
      replace HO := Lib.hid HO.out.drew
      refine wp_region_list (B := [false, false, false, false, false, false, false, false, false, false, false, false, false, false, false, false, false, false]) (S := (fun W => ((W.cell? ⟨b1, 0, none⟩ = some (.bool false) ∧ W.cell? ⟨b1, 1, none⟩ = some (.slice A (n + 1) c) ∧ W.cell? ⟨b1, 2, none⟩ = some (.slice B m d)) ∧ W.cell? ⟨b2, 0, none⟩ = some (.int .i64 ((dp : Nat) : Int)) ∧ W.cell? ⟨b2, 1, none⟩ = some (.slice L ln lc) ∧ W.cell? ⟨b2, 2, none⟩ = some (.slice H hn hc) ∧ W.cell? ⟨b2, 3, none⟩ = some (.bool b)))) (by kernel_rfl) (by kernel_rfl) (by kernel_rfl) ⟨HB1.out.tri, HB2.out.four⟩ (fun hsel hHeld => ?_)
      generalize hwz : World.drew _ = wz at HB1 HB2 HO hHeld ⊢
      clear hwz
      refine oneA 0 29 hsel (h := ?_)
      simp only [Act.put, List.setIfInBounds_toArray, List.set_cons_zero, List.set_cons_succ]
      refine oneA 1 30 hsel (h := ?_)
      simp only [Act.put, List.setIfInBounds_toArray, List.set_cons_zero, List.set_cons_succ]
      refine oneA 2 31 hsel (h := ?_)
      simp only [Act.put, List.setIfInBounds_toArray, List.set_cons_zero, List.set_cons_succ]
      refine oneA 3 32 hsel (h := ?_)
      simp only [Act.put, List.setIfInBounds_toArray, List.set_cons_zero, List.set_cons_succ]
      refine oneA 4 33 hsel (h := ?_)
      simp only [Act.put, List.setIfInBounds_toArray, List.set_cons_zero, List.set_cons_succ]
      refine take_skipL (i := 5) (d := 34) (oi := ?_) ?_ hsel (by kernel_rfl) (by kernel_rfl) (fun _ _ _ h => h) ?_ ?_ (by assumption) ?_
      case refine_2 => (simp only [List.getElem?_cons_succ, List.getElem?_cons_zero]; rfl)
      case refine_3 => rfl
      case refine_4 => rfl
      simp only [Act.put, List.setIfInBounds_toArray, List.set_cons_zero, List.set_cons_succ]
      refine take_skipL (i := 6) (d := 35) (oi := ?_) ?_ hsel (by kernel_rfl) (by kernel_rfl) (fun _ _ _ h => h) ?_ ?_ (by assumption) ?_
      case refine_2 => (simp only [List.getElem?_cons_succ, List.getElem?_cons_zero]; rfl)
      case refine_3 => rfl
      case refine_4 => rfl
      simp only [Act.put, List.setIfInBounds_toArray, List.set_cons_zero, List.set_cons_succ]
      refine take_skipL (i := 7) (d := 36) (oi := ?_) ?_ hsel (by kernel_rfl) (by kernel_rfl) (fun _ _ _ h => h) ?_ ?_ (by assumption) ?_
      case refine_2 => (simp only [List.getElem?_cons_succ, List.getElem?_cons_zero]; rfl)
      case refine_3 => rfl
      case refine_4 => rfl
      simp only [Act.put, List.setIfInBounds_toArray, List.set_cons_zero, List.set_cons_succ]
      refine take_skipL (i := 8) (d := 37) (oi := ?_) ?_ hsel (by kernel_rfl) (by kernel_rfl) (fun _ _ _ h => h) ?_ ?_ (by assumption) ?_
      case refine_2 => (simp only [List.getElem?_cons_succ, List.getElem?_cons_zero]; rfl)
      case refine_3 => rfl
      case refine_4 => rfl
      simp only [Act.put, List.setIfInBounds_toArray, List.set_cons_zero, List.set_cons_succ]
      refine oneA 9 38 hsel (h := ?_)
      simp only [Act.put, List.setIfInBounds_toArray, List.set_cons_zero, List.set_cons_succ]
      refine oneA 10 39 hsel (h := ?_)
      simp only [Act.put, List.setIfInBounds_toArray, List.set_cons_zero, List.set_cons_succ]
      refine take_skipL (i := 11) (d := 40) (oi := ?_) ?_ hsel (by kernel_rfl) (by kernel_rfl) (fun _ _ _ h => h) ?_ ?_ (by assumption) ?_
      case refine_2 => (simp only [List.getElem?_cons_succ, List.getElem?_cons_zero]; rfl)
      case refine_3 => rfl
      case refine_4 => rfl
      simp only [Act.put, List.setIfInBounds_toArray, List.set_cons_zero, List.set_cons_succ]
      refine take_skipL (i := 12) (d := 41) (oi := ?_) ?_ hsel (by kernel_rfl) (by kernel_rfl) (fun _ _ _ h => h) ?_ ?_ (by assumption) ?_
      case refine_2 => (simp only [List.getElem?_cons_succ, List.getElem?_cons_zero]; rfl)
      case refine_3 => rfl
      case refine_4 => rfl
      simp only [Act.put, List.setIfInBounds_toArray, List.set_cons_zero, List.set_cons_succ]
      refine take_skipL (i := 13) (d := 42) (oi := ?_) ?_ hsel (by kernel_rfl) (by kernel_rfl) (fun _ _ _ h => h) ?_ ?_ (by assumption) ?_
      case refine_2 => (simp only [List.getElem?_cons_succ, List.getElem?_cons_zero]; rfl)
      case refine_3 => rfl
      case refine_4 => rfl
      simp only [Act.put, List.setIfInBounds_toArray, List.set_cons_zero, List.set_cons_succ]
      refine take_skipL (i := 14) (d := 43) (oi := ?_) ?_ hsel (by kernel_rfl) (by kernel_rfl) (fun _ _ _ h => h) ?_ ?_ (by assumption) ?_
      case refine_2 => (simp only [List.getElem?_cons_succ, List.getElem?_cons_zero]; rfl)
      case refine_3 => rfl
      case refine_4 => rfl
      simp only [Act.put, List.setIfInBounds_toArray, List.set_cons_zero, List.set_cons_succ]
      refine take_skipL (i := 15) (d := 44) (oi := ?_) ?_ hsel (by kernel_rfl) (by kernel_rfl) (fun _ _ _ h => h) ?_ ?_ (by assumption) ?_
      case refine_2 => (simp only [List.getElem?_cons_succ, List.getElem?_cons_zero]; rfl)
      case refine_3 => rfl
      case refine_4 => rfl
      simp only [Act.put, List.setIfInBounds_toArray, List.set_cons_zero, List.set_cons_succ]
      refine oneA 16 45 hsel (h := ?_)
      simp only [Act.put, List.setIfInBounds_toArray, List.set_cons_zero, List.set_cons_succ]
      refine oneA 17 4 hsel (h := ?_)
      simp only [Act.put, List.setIfInBounds_toArray, List.set_cons_zero, List.set_cons_succ]
      refine wpAnyL_done (by kernel_rfl) (by kernel_rfl) ?_ _
      clear hsel hHeld
      go_wp2_with (fail)
      go_ret
      exact ⟨⟨false, rfl, ⟨(fun h => nomatch h), fun h => by exfalso; unfold FormP at h; rw [if_neg HLF.out] at h; exact HN0.out h.1⟩⟩, HO.out⟩
end Go.Proofs.Ytnjhpjpeeehagaa
