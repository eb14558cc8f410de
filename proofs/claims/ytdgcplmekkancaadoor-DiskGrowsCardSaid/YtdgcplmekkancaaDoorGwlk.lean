/-
  DiskGrows: its walk.
-/
import Derived.Test.YtdgcplmekkancaaDoorTrim
set_option linter.unusedVariables false
namespace Go.Proofs.YtdgcplmekkancaaDoor
open Go.RowKit

/-- A slice of integers in memory. -/
def Ints (w : World) (A : Option Addr) (n : Nat) (zs : List Int) : Prop :=
  zs.length = n ∧ (∀ z ∈ zs, -9223372036854775808 ≤ z ∧ z ≤ 9223372036854775807) ∧ (0 < n → ∃ ad, A = some ad ∧ ad.block < w.heap.size ∧ ∀ j z, zs[j]? = some z → w.cell? (ad.add j) = some (.int .i64 z))

theorem txt_of {w : World} {g n : Nat} {xs : Bytes} (h : Blk w g 5 (cb xs)) (hl : xs.length = n) : Txt w (some ⟨g, 0, none⟩) n xs :=
  ⟨hl, fun _ => ⟨_, rfl, fun j u hu => by rw [Addr.add_mid, h.cell, Nat.zero_add]; exact hu⟩⟩
theorem crash_none (d : Dsk) : (d.crash []).see = d.dur := by
  have h : kept [] d.row d.row.length = [] := by simp [kept, keepAt]
  show look (look d.dur (kept [] d.row d.row.length)) [] = _
  rw [h]
  rfl
theorem grow_full {d : Dsk} (hd : d.down = false) {m : Int} (hm : (d.limit : Int) < m) : d.grow m = (d, 12) := by
  unfold Dsk.grow
  rw [if_neg (by rw [hd]; decide), if_pos hm]
theorem grow_more {d : Dsk} (hd : d.down = false) {m : Int} (hm : ¬ (d.limit : Int) < m) : d.grow m = ({ d with n := max d.n m.toNat, dur := d.dur ++ List.replicate ((m.toNat - d.n) * 64) 0 }, 0) := by
  unfold Dsk.grow
  rw [if_neg (by rw [hd]; decide), if_neg hm]
theorem zs_of {w : World} {g a b : Nat} {X : Bytes} (h : Blk w g 5 (cb (X ++ List.replicate b 0))) (ha : X.length = a) : Zs w ⟨g, a, none⟩ b := by
  intro j hj
  rw [Addr.add_mid, h.cell, cb_append, List.getElem?_append_right (by rw [cb_length]; omega), cb_length, ha, Nat.add_sub_cancel_left, cb_replicate, List.getElem?_replicate, if_pos hj]

def GRel (w wr : World) (p : Nat) : Prop := ∃ d : Dsk, Holds wr (w.heap.size ≤ ·) p d ∧ d.row = [] ∧ d.down = false ∧ Only (w.heap.size ≤ ·) w wr

theorem early (n0 n1 : Nat) (limit : Int) : 3000 < n0 ∨ (n0 ≤ 3000 ∧ 200 < limit) ∨ (n0 ≤ 3000 ∧ limit ≤ 200 ∧ 60 < n1) ∨ (n0 ≤ 3000 ∧ limit ≤ 200 ∧ n1 ≤ 60) := by omega

set_option maxRecDepth 100000 in
set_option maxHeartbeats 3200000 in
theorem grows_walk (w : World) (A0 A1 : Option Addr) (c0 n1 c1 : Nat) (xs : Bytes) (limit : Int) (zs : List Int) (h0 : Src w (w.heap.size ≤ ·) A0 xs.length (cb xs)) (hc0 : xs.length ≤ c0) (hm0 : c0 ≤ maxLen) (h1 : Ints w A1 n1 zs) :
    Calls Tryd.prog 3 #[.slice A0 xs.length c0, .int .i64 limit, .slice A1 n1 c1] w fun e w' => e = .returned (.bool true) ∧ Only (w.heap.size ≤ ·) w w' := by
  obtain ⟨n0, hn0⟩ : ∃ n, n = xs.length := ⟨_, rfl⟩
  have HLoad : Hid (Calls Tryd.prog 5 #[.slice A0 n0 c0, .int .i64 limit] w fun e w' => ∃ p, e = .returned (.pointer (some ⟨p, 0, none⟩)) ∧ Hid (Holds w' (w.heap.size ≤ ·) p (Dsk.load xs limit) ∧ Only (w.heap.size ≤ ·) w w')) := by
    show Calls _ _ _ _ _
    rw [hn0]
    exact (Load_c w _ (fun _ h => h) A0 c0 xs limit h0 hc0 hm0).mono fun e w' ⟨p, h, hh, ho⟩ => ⟨p, h, hh, ho⟩
  have HI := Lib.hid h1
  rw [← hn0]
  have Hm : Hid (n0 ≤ c0 ∧ c0 ≤ maxLen) := ⟨by omega, hm0⟩
  clear h0 h1 hc0 hm0 hn0
  rcases early n0 n1 limit with b | ⟨b1, b⟩ | ⟨b1, b2, b⟩ | ⟨b1, b2, b3⟩
  · have i1 : (3000 : Int) < (n0 : Int) := by omega
    go_enter Tryd.func3, Tryd.ntmps3
    go_wp2_with (go_at_call 4; refine (alive_c _).mono ?_; rintro e w1 ⟨rfl, ho1⟩)
    go_ret
    exact ⟨rfl, ho1⟩
  · have i1 : ¬ ((3000 : Int) < (n0 : Int)) := by omega
    go_enter Tryd.func3, Tryd.ntmps3
    go_wp2_with (go_at_call 4; refine (alive_c _).mono ?_; rintro e w1 ⟨rfl, ho1⟩)
    go_ret
    exact ⟨rfl, ho1⟩
  · have i1 : ¬ ((3000 : Int) < (n0 : Int)) := by omega
    have i2 : ¬ ((200 : Int) < limit) := by omega
    have i3 : (60 : Int) < (n1 : Int) := by omega
    go_enter Tryd.func3, Tryd.ntmps3
    go_wp2_with (go_at_call 4; refine (alive_c _).mono ?_; rintro e w1 ⟨rfl, ho1⟩)
    go_ret
    exact ⟨rfl, ho1⟩
  · have i1 : ¬ ((3000 : Int) < (n0 : Int)) := by omega
    have i2 : ¬ ((200 : Int) < limit) := by omega
    have i3 : ¬ ((60 : Int) < (n1 : Int)) := by omega
    go_enter Tryd.func3, Tryd.ntmps3
    go_wp2_with fail
    refine HLoad.out.mono ?_
    rintro e w0 ⟨p, rfl, hh0⟩
    have HH0 := Lib.hid hh0.out
    clear hh0
    go_wp2_with fail
    go_loopw [34] (fun i wr => ∃ k : Nat, k ≤ n1 ∧ i = .int .i64 k ∧ GRel w wr p) (fun i _ => n1 - (intOf i).toNat)
    case atStart => exact ⟨0, Nat.zero_le _, rfl, _, HH0.out.1, rfl, rfl, HH0.out.2⟩
    case round =>
      obtain ⟨k, hk, rfl, d, hh, hrow, hdown, ho⟩ := hrel
      have HH := Lib.hid hh
      have HO := Lib.hid ho
      have HW := Lib.hid hh.1
      have Hrow := Lib.hid hrow
      have Hdn := Lib.hid hdown
      clear hh ho hrow hdown
      by_cases hlt : k < n1
      · have k1 : (k : Int) < (n1 : Int) := by omega
        obtain ⟨zl, zb, zc⟩ := HI.out
        obtain ⟨ad, rfl, had, hcell⟩ := zc (by omega)
        obtain ⟨m, hm⟩ : ∃ m, zs[k]? = some m := ⟨_, List.getElem?_eq_getElem (by omega)⟩
        have hb := zb m (List.mem_of_getElem? hm)
        have mb1 := hb.1
        have mb2 := hb.2
        have cm : wr.cell? (ad.add k) = some (.int .i64 m) := (HO.out.cell (p := ad.add k) (by rw [add_block]; omega)).trans (hcell k m hm)
        clear zl zb zc hcell hm hb had
        obtain ⟨n, hn⟩ : ∃ n, n = d.n := ⟨_, rfl⟩
        obtain ⟨L, hL⟩ : ∃ L, L = d.limit := ⟨_, rfl⟩
        have nL : n ≤ L := by rw [hn, hL]; exact HW.out.nl
        have Lb : L ≤ 65536 := by rw [hL]; exact HW.out.lim
        have HI1 : Hid (Calls Tryd.prog 6 #[.pointer (some ⟨p, 0, none⟩)] wr fun e w' => e = .returned (.slice (some ⟨wr.heap.size, 0, none⟩) (n * 64) (n * 64)) ∧ Hid (Blk w' wr.heap.size 5 (cb d.dur) ∧ Only (wr.heap.size ≤ ·) wr w')) := by
          have h := Image_c wr _ p d HH.out
          have e : d.see = d.dur := by unfold Dsk.see; rw [Hrow.out]; rfl
          rw [e, ← hn] at h
          exact h.mono fun e w' ⟨h1, h2, h3⟩ => ⟨h1, h2, h3⟩
        have Hn := Lib.hid hn
        have HLm := Lib.hid hL
        clear hn hL
        go_wp2_with fail
        refine HI1.out.mono ?_
        rintro e w1 ⟨rfl, hb1⟩
        have HB1 := Lib.hid hb1.out
        clear hb1
        obtain ⟨g1, hg1⟩ : ∃ g, g = wr.heap.size := ⟨_, rfl⟩
        have hwr : w.heap.size ≤ g1 := by rw [hg1]; exact HO.out.size
        have H1 : Hid (Holds w1 (fun k => w.heap.size ≤ k ∧ k ≠ g1) p d) := by
          rw [hg1]
          exact (HH.out.below.keep HB1.out.2 (fun k hk _ => by simp; omega)).mono fun k _ hk => ⟨hk.1, by omega⟩
        have HO1 : Hid (Only (w.heap.size ≤ ·) w w1) := HO.out.trans (HB1.out.2.mono fun k (hk : wr.heap.size ≤ k) => Nat.le_trans HO.out.size hk)
        rw [← hg1] at HB1 ⊢
        have HBw : Hid (Blk w1 g1 5 (cb d.dur)) := HB1.out.1
        have hg1l : g1 < w1.heap.size := HBw.out.lt
        have HF1 : Hid (∀ k, w1.heap.size ≤ k → w.heap.size ≤ k ∧ k ≠ g1) := fun k hk => ⟨by omega, by omega⟩
        clear hg1 HB1 HI1 HH HO
        go_wp2_with (go_at_call 7; refine (says (Size_c w1 _ p d H1.out) (by rw [← Hn.out])).mono ?_; rintro e w' ⟨rfl, rfl⟩)
        by_cases hfull : (L : Int) < m
        · have HG : Hid (d.grow m = (d, 12)) := grow_full Hdn.out (by rw [← HLm.out]; exact hfull)
          refine (says (Grow_c w1 _ HF1.out p d H1.out m mb1 mb2) (by rw [HG.out])).mono ?_
          rintro e w2 ⟨rfl, hh2, ho2⟩
          rw [HG.out] at hh2
          obtain ⟨D, hD⟩ : ∃ D, D = d := ⟨_, rfl⟩
          obtain ⟨N, hN⟩ : ∃ N, N = n := ⟨_, rfl⟩
          have FD : Hid (D.dur = d.dur ++ List.replicate (N * 64 - n * 64) 0 ∧ D.n = N ∧ D.row = [] ∧ D.limit = L ∧ N ≤ L ∧ n ≤ N) := by
            subst hD hN
            exact ⟨by simp, Hn.out.symm, Hrow.out, HLm.out.symm, nL, Nat.le_refl _⟩
          rw [← hD] at hh2
          clear hD
          have H2 := Lib.hid hh2
          have HB2 : Hid (Blk w2 g1 5 (cb d.dur)) := HBw.out.only ho2 (by simp)
          have HO2 : Hid (Only (w.heap.size ≤ ·) w w2) := HO1.out.trans (ho2.mono fun k hk => hk.1)
          have HF2 : Hid (∀ k, w2.heap.size ≤ k → w.heap.size ≤ k ∧ k ≠ g1) := fun k hk => by have := HO1.out.size; have := ho2.size; exact ⟨by omega, by omega⟩
          have HDl : Hid (d.dur.length = n * 64) := by show _ = _; rw [Hn.out]; exact HW.out.len
          clear hh2 ho2 HG
          subst hN
          go_wp2_with (first | (go_at_call 9; refine (says (Limit_c w2 _ p D H2.out) (by rw [FD.out.2.2.2.1])).mono ?_; rintro e w' ⟨rfl, rfl⟩) | (go_at_call 7; refine (says (Size_c w2 _ p D H2.out) (by rw [FD.out.2.1])).mono ?_; rintro e w' ⟨rfl, rfl⟩))
          refine (Crash_c w2 _ HF2.out p D H2.out (by rw [FD.out.2.2.1]; simp) none 0 0 [] rfl (fun h => absurd h (by decide)) (by omega)).mono ?_
          rintro e w3 ⟨rfl, hh3, ho3⟩
          have H3 := Lib.hid hh3
          have HB3 : Hid (Blk w3 g1 5 (cb d.dur)) := HB2.out.only ho3 (by simp)
          have HO3 : Hid (Only (w.heap.size ≤ ·) w w3) := HO2.out.trans (ho3.mono fun k hk => hk.1)
          have HI2 : Hid (Calls Tryd.prog 6 #[.pointer (some ⟨p, 0, none⟩)] w3 fun e w' => e = .returned (.slice (some ⟨w3.heap.size, 0, none⟩) (N * 64) (N * 64)) ∧ Hid (Blk w' w3.heap.size 5 (cb (d.dur ++ List.replicate (N * 64 - N * 64) 0)) ∧ Only (w3.heap.size ≤ ·) w3 w')) := by
            have h := Image_c w3 _ p _ H3.out
            rw [crash_none, FD.out.1, show (D.crash []).n = N from FD.out.2.1] at h
            exact h.mono fun e w' ⟨h1, h2, h3⟩ => ⟨h1, h2, h3⟩
          clear hh3 ho3
          go_wp2_with fail
          refine HI2.out.mono ?_
          rintro e w4 ⟨rfl, hb4⟩
          have HB4 := Lib.hid hb4.out
          clear hb4 HI2
          have HO4 : Hid (Only (w.heap.size ≤ ·) w w4) := HO3.out.trans (HB4.out.2.mono fun k (hk : w3.heap.size ≤ k) => Nat.le_trans HO3.out.size hk)
          have H4 : Hid (Holds w4 (w.heap.size ≤ ·) p (D.crash [])) := (H3.out.below.keep HB4.out.2 (fun k hk _ => by simp; omega)).mono fun k _ hk => hk.1.1
          have HTw : Hid (Txt w4 (some ⟨g1, 0, none⟩) (N * 64) d.dur) := txt_of (HB3.out.only HB4.out.2 (by have := HB3.out.lt; simp; omega)) HDl.out
          have HTn : Hid (Txt w4 (some ⟨w3.heap.size, 0, none⟩) (N * 64) (d.dur ++ List.replicate (N * 64 - N * 64) 0)) := txt_of HB4.out.1 (by have := FD.out.2.2.2.2.2; rw [List.length_append, List.length_replicate, HDl.out]; omega)
          have HP : Hid ((d.dur ++ List.replicate (N * 64 - N * 64) 0).take (N * 64) = d.dur) := List.take_left' HDl.out
          have HZ : Hid (Zs w4 ⟨w3.heap.size, N * 64, none⟩ (N * 64 - N * 64)) := zs_of HB4.out.1 HDl.out
          have nN : N ≤ N := FD.out.2.2.2.2.2
          have NL : N ≤ L := FD.out.2.2.2.2.1
          have j1 : N * 64 ≤ N * 64 := by omega
          have j2 : ((N * 64 : Nat) : Int) ≤ ((N * 64 : Nat) : Int) := by omega
          have j3 : (N : Int) * 64 ≤ (N : Int) * 64 := by omega
          have j4 : (0 : Int) ≤ (N : Int) * 64 := by omega
          have j5 : ((N : Int) * 64).toNat = N * 64 := by omega
          have j6 : IntKind.i64.wrap ((N : Int) * 64) = (N : Int) * 64 := IntWalk.i64_in _ (by omega)
          clear j1 j2 j3
          have j1 : N * 64 ≤ N * 64 := Nat.le_refl _
          have HZ0 : Hid (Zs w4 ⟨w3.heap.size, 0, none⟩ 0) := fun j hj => absurd hj (by omega)
          go_wp2_with (first | (go_at_call 7; refine (says (Size_c w4 _ p _ H4.out) (by rw [show (D.crash []).n = N from FD.out.2.1])).mono ?_; rintro e w' ⟨rfl, rfl⟩) | (go_at_call 11; refine (HasPrefix_c w4 _ _ _ _ _ _ _ _ HTn.out HTw.out j1 (Nat.le_refl _) HP.out).mono ?_; rintro e w' ⟨rfl, rfl⟩) | (go_at_call 12; refine (Trim_c w4 _ 0 0 HZ0.out (Nat.le_refl _) (by omega)).mono ?_; rintro e w' ⟨rfl, mq, rfl⟩))
          go_roundw
          case rel => exact ⟨k + 1, by omega, by go_num, D.crash [], H4.out.drewN _, rfl, rfl, HO4.out.drewN _⟩
          case measure => simp [intOf]; omega
        · have HG : Hid (d.grow m = ({ d with n := max d.n m.toNat, dur := d.dur ++ List.replicate ((m.toNat - d.n) * 64) 0 }, 0)) := grow_more Hdn.out (by rw [← HLm.out]; exact hfull)
          refine (says (Grow_c w1 _ HF1.out p d H1.out m mb1 mb2) (by rw [HG.out])).mono ?_
          rintro e w2 ⟨rfl, hh2, ho2⟩
          rw [HG.out] at hh2
          obtain ⟨D, hD⟩ : ∃ D : Dsk, D = { d with n := max d.n m.toNat, dur := d.dur ++ List.replicate ((m.toNat - d.n) * 64) 0 } := ⟨_, rfl⟩
          obtain ⟨N, hN⟩ : ∃ N, N = max n m.toNat := ⟨_, rfl⟩
          have FD : Hid (D.dur = d.dur ++ List.replicate (N * 64 - n * 64) 0 ∧ D.n = N ∧ D.row = [] ∧ D.limit = L ∧ N ≤ L ∧ n ≤ N) := by
            rw [hD, hN, ← Hn.out]
            refine ⟨?_, rfl, Hrow.out, HLm.out.symm, by omega, by omega⟩
            show d.dur ++ _ = d.dur ++ _
            congr 2
            omega
          rw [← hD] at hh2
          have hmx : (if (n : Int) < m then m else (n : Int)) = (N : Int) := by rw [hN]; split <;> omega
          clear hD hN
          have H2 := Lib.hid hh2
          have HB2 : Hid (Blk w2 g1 5 (cb d.dur)) := HBw.out.only ho2 (by simp)
          have HO2 : Hid (Only (w.heap.size ≤ ·) w w2) := HO1.out.trans (ho2.mono fun k hk => hk.1)
          have HF2 : Hid (∀ k, w2.heap.size ≤ k → w.heap.size ≤ k ∧ k ≠ g1) := fun k hk => by have := HO1.out.size; have := ho2.size; exact ⟨by omega, by omega⟩
          have HDl : Hid (d.dur.length = n * 64) := by show _ = _; rw [Hn.out]; exact HW.out.len
          clear hh2 ho2 HG
          by_cases hNn : N = n
          · subst hNn
            go_wp2_with (first | (go_at_call 9; refine (says (Limit_c w2 _ p D H2.out) (by rw [FD.out.2.2.2.1])).mono ?_; rintro e w' ⟨rfl, rfl⟩) | (go_at_call 7; refine (says (Size_c w2 _ p D H2.out) (by rw [FD.out.2.1])).mono ?_; rintro e w' ⟨rfl, rfl⟩))
            refine (Crash_c w2 _ HF2.out p D H2.out (by rw [FD.out.2.2.1]; simp) none 0 0 [] rfl (fun h => absurd h (by decide)) (by omega)).mono ?_
            rintro e w3 ⟨rfl, hh3, ho3⟩
            have H3 := Lib.hid hh3
            have HB3 : Hid (Blk w3 g1 5 (cb d.dur)) := HB2.out.only ho3 (by simp)
            have HO3 : Hid (Only (w.heap.size ≤ ·) w w3) := HO2.out.trans (ho3.mono fun k hk => hk.1)
            have HI2 : Hid (Calls Tryd.prog 6 #[.pointer (some ⟨p, 0, none⟩)] w3 fun e w' => e = .returned (.slice (some ⟨w3.heap.size, 0, none⟩) (N * 64) (N * 64)) ∧ Hid (Blk w' w3.heap.size 5 (cb (d.dur ++ List.replicate (N * 64 - N * 64) 0)) ∧ Only (w3.heap.size ≤ ·) w3 w')) := by
              have h := Image_c w3 _ p _ H3.out
              rw [crash_none, FD.out.1, show (D.crash []).n = N from FD.out.2.1] at h
              exact h.mono fun e w' ⟨h1, h2, h3⟩ => ⟨h1, h2, h3⟩
            clear hh3 ho3
            go_wp2_with fail
            refine HI2.out.mono ?_
            rintro e w4 ⟨rfl, hb4⟩
            have HB4 := Lib.hid hb4.out
            clear hb4 HI2
            have HO4 : Hid (Only (w.heap.size ≤ ·) w w4) := HO3.out.trans (HB4.out.2.mono fun k (hk : w3.heap.size ≤ k) => Nat.le_trans HO3.out.size hk)
            have H4 : Hid (Holds w4 (w.heap.size ≤ ·) p (D.crash [])) := (H3.out.below.keep HB4.out.2 (fun k hk _ => by simp; omega)).mono fun k _ hk => hk.1.1
            have HTw : Hid (Txt w4 (some ⟨g1, 0, none⟩) (N * 64) d.dur) := txt_of (HB3.out.only HB4.out.2 (by have := HB3.out.lt; simp; omega)) HDl.out
            have HTn : Hid (Txt w4 (some ⟨w3.heap.size, 0, none⟩) (N * 64) (d.dur ++ List.replicate (N * 64 - N * 64) 0)) := txt_of HB4.out.1 (by have := FD.out.2.2.2.2.2; rw [List.length_append, List.length_replicate, HDl.out]; omega)
            have HP : Hid ((d.dur ++ List.replicate (N * 64 - N * 64) 0).take (N * 64) = d.dur) := List.take_left' HDl.out
            have HZ : Hid (Zs w4 ⟨w3.heap.size, N * 64, none⟩ (N * 64 - N * 64)) := zs_of HB4.out.1 HDl.out
            have nN : N ≤ N := FD.out.2.2.2.2.2
            have NL : N ≤ L := FD.out.2.2.2.2.1
            have j1 : N * 64 ≤ N * 64 := by omega
            have j2 : ((N * 64 : Nat) : Int) ≤ ((N * 64 : Nat) : Int) := by omega
            have j3 : (N : Int) * 64 ≤ (N : Int) * 64 := by omega
            have j4 : (0 : Int) ≤ (N : Int) * 64 := by omega
            have j5 : ((N : Int) * 64).toNat = N * 64 := by omega
            have j6 : IntKind.i64.wrap ((N : Int) * 64) = (N : Int) * 64 := IntWalk.i64_in _ (by omega)
            clear j1 j2 j3
            have j1 : N * 64 ≤ N * 64 := Nat.le_refl _
            have HZ0 : Hid (Zs w4 ⟨w3.heap.size, 0, none⟩ 0) := fun j hj => absurd hj (by omega)
            go_wp2_with (first | (go_at_call 7; refine (says (Size_c w4 _ p _ H4.out) (by rw [show (D.crash []).n = N from FD.out.2.1])).mono ?_; rintro e w' ⟨rfl, rfl⟩) | (go_at_call 11; refine (HasPrefix_c w4 _ _ _ _ _ _ _ _ HTn.out HTw.out j1 (Nat.le_refl _) HP.out).mono ?_; rintro e w' ⟨rfl, rfl⟩) | (go_at_call 12; refine (Trim_c w4 _ 0 0 HZ0.out (Nat.le_refl _) (by omega)).mono ?_; rintro e w' ⟨rfl, mq, rfl⟩))
            go_roundw
            case rel => exact ⟨k + 1, by omega, by go_num, D.crash [], H4.out.drewN _, rfl, rfl, HO4.out.drewN _⟩
            case measure => simp [intOf]; omega
          · go_wp2_with (first | (go_at_call 9; refine (says (Limit_c w2 _ p D H2.out) (by rw [FD.out.2.2.2.1])).mono ?_; rintro e w' ⟨rfl, rfl⟩) | (go_at_call 7; refine (says (Size_c w2 _ p D H2.out) (by rw [FD.out.2.1])).mono ?_; rintro e w' ⟨rfl, rfl⟩))
            refine (Crash_c w2 _ HF2.out p D H2.out (by rw [FD.out.2.2.1]; simp) none 0 0 [] rfl (fun h => absurd h (by decide)) (by omega)).mono ?_
            rintro e w3 ⟨rfl, hh3, ho3⟩
            have H3 := Lib.hid hh3
            have HB3 : Hid (Blk w3 g1 5 (cb d.dur)) := HB2.out.only ho3 (by simp)
            have HO3 : Hid (Only (w.heap.size ≤ ·) w w3) := HO2.out.trans (ho3.mono fun k hk => hk.1)
            have HI2 : Hid (Calls Tryd.prog 6 #[.pointer (some ⟨p, 0, none⟩)] w3 fun e w' => e = .returned (.slice (some ⟨w3.heap.size, 0, none⟩) (N * 64) (N * 64)) ∧ Hid (Blk w' w3.heap.size 5 (cb (d.dur ++ List.replicate (N * 64 - n * 64) 0)) ∧ Only (w3.heap.size ≤ ·) w3 w')) := by
              have h := Image_c w3 _ p _ H3.out
              rw [crash_none, FD.out.1, show (D.crash []).n = N from FD.out.2.1] at h
              exact h.mono fun e w' ⟨h1, h2, h3⟩ => ⟨h1, h2, h3⟩
            clear hh3 ho3
            go_wp2_with fail
            refine HI2.out.mono ?_
            rintro e w4 ⟨rfl, hb4⟩
            have HB4 := Lib.hid hb4.out
            clear hb4 HI2
            have HO4 : Hid (Only (w.heap.size ≤ ·) w w4) := HO3.out.trans (HB4.out.2.mono fun k (hk : w3.heap.size ≤ k) => Nat.le_trans HO3.out.size hk)
            have H4 : Hid (Holds w4 (w.heap.size ≤ ·) p (D.crash [])) := (H3.out.below.keep HB4.out.2 (fun k hk _ => by simp; omega)).mono fun k _ hk => hk.1.1
            have HTw : Hid (Txt w4 (some ⟨g1, 0, none⟩) (n * 64) d.dur) := txt_of (HB3.out.only HB4.out.2 (by have := HB3.out.lt; simp; omega)) HDl.out
            have HTn : Hid (Txt w4 (some ⟨w3.heap.size, 0, none⟩) (N * 64) (d.dur ++ List.replicate (N * 64 - n * 64) 0)) := txt_of HB4.out.1 (by have := FD.out.2.2.2.2.2; rw [List.length_append, List.length_replicate, HDl.out]; omega)
            have HP : Hid ((d.dur ++ List.replicate (N * 64 - n * 64) 0).take (n * 64) = d.dur) := List.take_left' HDl.out
            have HZ : Hid (Zs w4 ⟨w3.heap.size, n * 64, none⟩ (N * 64 - n * 64)) := zs_of HB4.out.1 HDl.out
            have nN : n ≤ N := FD.out.2.2.2.2.2
            have NL : N ≤ L := FD.out.2.2.2.2.1
            have j1 : n * 64 ≤ N * 64 := by omega
            have j2 : ((n * 64 : Nat) : Int) ≤ ((N * 64 : Nat) : Int) := by omega
            have j3 : (n : Int) * 64 ≤ (N : Int) * 64 := by omega
            have j4 : (0 : Int) ≤ (n : Int) * 64 := by omega
            have j5 : ((n : Int) * 64).toNat = n * 64 := by omega
            have j6 : IntKind.i64.wrap ((N : Int) * 64) = (N : Int) * 64 := IntWalk.i64_in _ (by omega)
            have j7 : ¬ (N * 64 = n * 64) := by omega
            go_wp2_with (first | (go_at_call 7; refine (says (Size_c w4 _ p _ H4.out) (by rw [show (D.crash []).n = N from FD.out.2.1])).mono ?_; rintro e w' ⟨rfl, rfl⟩) | (go_at_call 11; refine (HasPrefix_c w4 _ _ _ _ _ _ _ _ HTn.out HTw.out j1 (Nat.le_refl _) HP.out).mono ?_; rintro e w' ⟨rfl, rfl⟩) | (go_at_call 12; refine (Trim_c w4 _ _ _ HZ.out (Nat.le_refl _) (by omega)).mono ?_; rintro e w' ⟨rfl, mq, rfl⟩))
            go_roundw
            case rel => exact ⟨k + 1, by omega, by go_num, D.crash [], H4.out.drewN _, rfl, rfl, HO4.out.drewN _⟩
            case measure => simp [intOf]; omega
      · obtain rfl : k = n1 := by omega
        have k1 : ¬ ((k : Int) < (k : Int)) := by omega
        have nl : (d.n : Int) ≤ (d.limit : Int) := by have := HW.out.nl; omega
        go_wp2_with (first | (go_at_call 4; refine (alive_c _).mono ?_; rintro e w1 ⟨rfl, ho1⟩; have HO1 := Lib.hid ho1; have H1 : Hid (Holds w1 (w.heap.size ≤ ·) p d) := (HH.out.below.keep ho1 (fun k hk _ => by simp; omega)).mono fun k _ hk => hk.1; clear ho1) | (go_at_call 7; refine (Size_c _ _ p d H1.out).mono ?_; rintro e w' ⟨rfl, rfl⟩) | (go_at_call 9; refine (Limit_c _ _ p d H1.out).mono ?_; rintro e w' ⟨rfl, rfl⟩))
        go_ret
        exact ⟨rfl, HO.out.trans (HO1.out.mono fun k (hk : wr.heap.size ≤ k) => Nat.le_trans HO.out.size hk)⟩
end Go.Proofs.YtdgcplmekkancaaDoor
