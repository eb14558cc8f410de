/-
  DiskSynced: its walk, over an image, a script and bools in memory.
-/
import Derived.Test.YtelgeddheheokaaMark
import Derived.Test.YtelgeddheheokaaPick
import Derived.Deep.QuietTactic
import Derived.BigQuiet
set_option linter.unusedVariables false
namespace Go.Proofs.Ytelgeddheheokaa
open Go.RowKit

def bb (l : List Bool) : List Value := l.map Value.bool
theorem info4 : (Try.prog.info? 4).map (fun i => (i.zero, i.size, i.bytes)) = some (some (.bool false), 1, 1) := by kernel_rfl
theorem made4 (k : Nat) : madeCells (Value.bool false).cells k = (bb (List.replicate k false)).toArray := by
  unfold madeCells
  apply Array.ext
  · simp [bb]
  · intro i h1 h2
    simp [Value.cells, Nat.mod_one, bb]

/-- What holds at the head of each round of the loop over the script. -/
def SRel (w : World) (p gw gb : Nat) (X : Bytes) (N : Nat) (k : Nat) (wr : World) : Prop :=
  ∃ d : Dsk, Holds wr (fun j => w.heap.size ≤ j ∧ j ≠ gw ∧ j ≠ gb) p d ∧ Blk wr gw 5 (cb X) ∧ Blk wr gb 4 (bb (marks N d.row)) ∧ d.dur = X ∧ d.n = N ∧
    d.down = false ∧ d.armed = false ∧ d.ops ≤ k + 1 ∧ d.row.length ≤ k * 64 ∧ Only (w.heap.size ≤ ·) w wr

theorem txt_part {w : World} {g N k : Nat} {xs : Bytes} (h : Blk w g 5 (cb xs)) (hl : xs.length = N * 64) (hk : k < N) : Txt w (some ⟨g, k * 64, none⟩) ((k + 1) * 64 - k * 64) ((xs.drop (k * 64)).take 64) := by
  refine ⟨by simp; omega, fun _ => ⟨_, rfl, fun j u hu => ?_⟩⟩
  rw [cb_take, List.getElem?_take] at hu
  split at hu
  · rw [cb_drop, List.getElem?_drop] at hu
    rw [Addr.add_mid, h.cell]
    exact hu
  · cases hu

set_option maxRecDepth 100000 in
set_option maxHeartbeats 3200000 in
theorem synced_walk (w : World) (A0 A1 A2 : Option Addr) (n0 c0 n1 c1 n2 c2 : Nat) (xs : Bytes) (l : List Cl) (kl : List Bool) (h0 : Src w (w.heap.size ≤ ·) A0 n0 (cb xs)) (hc0 : n0 ≤ c0) (hm0 : c0 ≤ maxLen) (h1 : Script w A1 n1 l)
    (h2 : SrcB w (w.heap.size ≤ ·) A2 kl) (hk2 : kl.length = n2) (hm2 : n2 ≤ maxLen) :
    Calls Try.prog 3 #[.slice A0 n0 c0, .slice A1 n1 c1, .slice A2 n2 c2] w fun e w' => e = .returned (.bool true) ∧ Only (w.heap.size ≤ ·) w w' := by
  have hm0' : (n0 : Int) ≤ 9223372036854775807 := by simp only [maxLen] at hm0; omega
  have hm2' : (n2 : Int) ≤ 9223372036854775807 := by simp only [maxLen] at hm2; omega
  have hxl : xs.length = n0 := by have := h0.1; rwa [cb_length] at this
  have HSrc := Lib.hid h0
  have HScr := Lib.hid h1
  have HBs := Lib.hid (And.intro h2 hk2)
  have Hm := Lib.hid (And.intro hc0 hm0)
  have HX := Lib.hid hxl
  clear h0 h1 h2 hk2 hc0 hm0 hxl hm2
  go_enter Try.func3, Try.ntmps3
  go_wp2_with fail
  refine (few_c w A1 n1 c1 l HScr.out).mono ?_
  rintro e w0 ⟨r, rfl, h60, ho0⟩
  have H60 := Lib.hid h60
  have HO0 := Lib.hid ho0
  clear h60 ho0
  have Halive : Hid (∀ W : World, Only (w.heap.size ≤ ·) w W → Calls Try.prog 8 #[] W fun e w' => e = .returned (.bool true) ∧ Only (w.heap.size ≤ ·) w w') := fun W hW =>
    (alive_c W).mono fun e w' ⟨he, ho⟩ => ⟨he, hW.trans (ho.mono fun k (hk : W.heap.size ≤ k) => Nat.le_trans hW.size hk)⟩
  cases r with
  | false =>
    go_wp2_with (go_at_call 8; refine (Halive.out _ HO0.out).mono ?_; rintro e w' ⟨rfl, ho⟩; have HF := Lib.hid ho; clear ho)
    all_goals
      go_ret
      exact ⟨rfl, HF.out⟩
  | true =>
    have Hn1 : Hid (n1 ≤ 60) := H60.out rfl
    by_cases hbig : 3000 < n0 ∨ 200 < n2
    · have d1 : (decide ((3000 : Int) < (n0 : Int)) = true) ∨ (decide ((3000 : Int) < (n0 : Int)) = false ∧ decide ((200 : Int) < (n2 : Int)) = true) := by
        by_cases h3 : 3000 < n0
        · left; simp; omega
        · right; constructor
          · simp; omega
          · simp; omega
      clear hbig
      rcases d1 with d1 | ⟨d1, d2⟩
      all_goals
        go_wp2_with (go_at_call 8; refine (Halive.out _ HO0.out).mono ?_; rintro e w' ⟨rfl, ho⟩; have HF := Lib.hid ho; clear ho)
        all_goals
          go_ret
          exact ⟨rfl, HF.out⟩
    · have d1 : decide ((3000 : Int) < (n0 : Int)) = false := by simp; omega
      have d2 : decide ((200 : Int) < (n2 : Int)) = false := by simp; omega
      have hn2 : n2 ≤ 200 := by omega
      have hsz0 := HO0.out.size
      have HL : Hid (∃ _ : True, Calls Try.prog 9 #[.slice A0 n0 c0, .int .i64 64] w0 fun e w' => ∃ p, e = .returned (.pointer (some ⟨p, 0, none⟩)) ∧ Hid (Holds w' (w.heap.size ≤ ·) p (Dsk.load xs 64) ∧ Only (w.heap.size ≤ ·) w w')) := by
        refine ⟨trivial, ?_⟩
        have hs : Src w0 (w0.heap.size ≤ ·) A0 xs.length (cb xs) := by
          have hx := HX.out
          refine ⟨by rw [cb_length], fun hp => ?_⟩
          obtain ⟨ad, e1, e2, e3⟩ := HSrc.out.2 (by omega)
          refine ⟨ad, e1, by omega, fun j u hu => ?_⟩
          exact (HO0.out.cell (p := ad.add j) (by rw [add_block]; exact e2)).trans (e3 j u hu)
        have hl := Load_c w0 (w0.heap.size ≤ ·) (fun _ h => h) A0 c0 xs 64 hs (by have := HX.out; have := Hm.out.1; omega) Hm.out.2
        rw [HX.out] at hl
        refine hl.mono ?_
        rintro e w' ⟨p, he, hh, ho⟩
        exact ⟨p, he, hh.mono (fun k _ hk => Nat.le_trans hsz0 hk), HO0.out.trans (ho.mono fun k (hk : w0.heap.size ≤ k) => Nat.le_trans hsz0 hk)⟩
      have HN0 : Hid ((Dsk.load xs 64).sync.1.n ≤ 64 ∧ (Dsk.load xs 64).sync.1.dur.length = (Dsk.load xs 64).sync.1.n * 64 ∧ (Dsk.load xs 64).sync.1.row = [] ∧ (Dsk.load xs 64).sync.1.down = false ∧ (Dsk.load xs 64).sync.1.armed = false ∧ (Dsk.load xs 64).sync.1.ops = 1 ∧ (Dsk.load xs 64).sync.1.see = (Dsk.load xs 64).sync.1.dur) := by
        have := (Dsk.WF.load xs 64).nl
        have e : (Dsk.load xs 64).limit = 64 := by simp [Dsk.load, cut]
        rw [sync_facts rfl rfl]
        exact ⟨by show (Dsk.load xs 64).n ≤ 64; omega, (Dsk.WF.load xs 64).see, rfl, rfl, rfl, rfl, rfl⟩
      go_wp2_with fail
      refine HL.out.2.mono ?_
      rintro e w1 ⟨p, rfl, H1⟩
      have hs1 := H1.out.2.size
      go_wp2_with fail
      refine (says (Sync_c w1 (w.heap.size ≤ ·) (fun j hj => Nat.le_trans hs1 hj) p _ H1.out.1 (by show 0 < _; omega) (Nat.zero_le _)) (b := .int .i64 0) (by rw [sync_facts rfl rfl])).mono ?_
      rintro e w2 ⟨rfl, hh2, ho2⟩
      have H2 : Hid (Holds w2 (w.heap.size ≤ ·) p (Dsk.load xs 64).sync.1 ∧ Only (w.heap.size ≤ ·) w w2) := ⟨hh2, H1.out.2.trans ho2⟩
      clear hh2 ho2 H1 hs1
      go_wp2_with fail
      refine (Image_c w2 _ p _ H2.out.1).mono ?_
      rintro e w3 ⟨rfl, hb3, ho3⟩
      have H3 := Lib.hid (And.intro hb3 ho3)
      clear hb3 ho3
      generalize (Dsk.load xs 64).sync.1 = d1 at H2 H3 HN0
      have hmk : ∀ W : World, (Instr.makeSlice 24 (.int .i64 (d1.n : Int)) (.int .i64 (d1.n : Int))).run Try.prog W = .ok (.slice (some ⟨W.heap.size, 0, none⟩) d1.n d1.n) (W.alloc (.cells (bb (List.replicate d1.n false)).toArray 4)) := by
        intro W
        obtain ⟨i0, hi0, hz0, hz1, hz2⟩ := info_parts info4
        have := HN0.out.1
        have hr := run_make (P := Try.prog) W 24 4 i0 _ Try.underlying24 hi0 hz0 .i64 .i64 (d1.n : Int) (d1.n : Int) (by omega) (by omega) (by rw [hz2]; omega) (by omega)
        simp only [Int.toNat_natCast] at hr
        rw [made4, hz1, Nat.mul_one] at hr
        exact hr
      have H3h : Hid (Holds w3 (fun j => w.heap.size ≤ j ∧ j ≠ w2.heap.size) p d1) := (H2.out.1.below.keep H3.out.2 (fun k hk _ => by simp; omega)).mono fun k _ hk => ⟨hk.1, by omega⟩
      have hs2 := H2.out.2.size
      have hs3 : w2.heap.size < w3.heap.size := H3.out.1.lt
      have O3 : Hid (Only (w.heap.size ≤ ·) w w3) := H2.out.2.trans (H3.out.2.mono fun k (hk : w2.heap.size ≤ k) => by show w.heap.size ≤ k; omega)
      go_wp2_with fail
      refine (Size_c w3 _ p _ H3h.out).mono ?_
      rintro e w' ⟨rfl, rfl⟩
      obtain ⟨gw, hgw⟩ : ∃ g, g = w2.heap.size := ⟨_, rfl⟩
      obtain ⟨gb, hgb⟩ : ∃ g, g = w3.heap.size := ⟨_, rfl⟩
      have HK0 : Hid (SRel w p gw gb d1.dur d1.n 0 (w3.alloc (.cells (bb (List.replicate d1.n false)).toArray 4))) := by
        obtain ⟨e1, e2, e3, e4, e5, e6, e7⟩ := HN0.out
        have hb := H3.out.1
        rw [e7] at hb
        rw [hgw, hgb]
        refine ⟨d1, ((H3h.out.below).alloc _).mono (fun j _ hj => ⟨hj.1.1, hj.1.2, by omega⟩), hb.alloc _, ?_, rfl, rfl, e4, e5, by omega, by rw [e3]; exact Nat.zero_le _, O3.out.alloc (fun _ h => h) _⟩
        rw [e3, marks_nil]
        exact Blk.new _ 4 _
      have hb60 : (n1 : Int) ≤ 60 := by have := Hn1.out; omega
      have HG : Hid (w.heap.size ≤ gw ∧ gw < gb ∧ w.heap.size ≤ gb) := ⟨by omega, by omega, by omega⟩
      go_wp2
      rw [← hgw, ← hgb]
      clear hmk H2 H3 H3h O3 hs2 hs3 hgw hgb
      have HXN : Hid (d1.n ≤ 64 ∧ d1.dur.length = d1.n * 64) := ⟨HN0.out.1, HN0.out.2.1⟩
      clear HN0
      generalize d1.dur = X at HK0 HXN ⊢
      generalize d1.n = N at HK0 HXN ⊢
      go_loopw [46] (fun i wr => ∃ k : Nat, k ≤ n1 ∧ i = .int .i64 k ∧ SRel w p gw gb X N k wr) (fun i _ => n1 - (intOf i).toNat)
      case atStart => exact ⟨0, Nat.zero_le _, rfl, HK0.out⟩
      case round =>
        obtain ⟨k, hk, rfl, d, hh, hbw, hbb, hdX, hdN, hdn, har, hops, hrow, honly⟩ := hrel
        have HH := Lib.hid hh
        have HBW := Lib.hid hbw
        have HBB := Lib.hid hbb
        have HD := Lib.hid (And.intro hdn (And.intro har (And.intro hops (And.intro hrow (And.intro hdX hdN)))))
        have HO := Lib.hid honly
        have hglt := hbb.lt
        have hglw := hbw.lt
        have hszr := honly.size
        clear hh hbw hbb hdn har hops hrow honly HK0 hdX hdN
        by_cases hlt : k < n1
        · obtain ⟨b, off, o, rfl, hb, _, hok, hr⟩ := HScr.out.at_ hlt
          have hr' := range_only hr HO.out (by omega)
          have q0 : wr.cell? ⟨b, off + k * 5, none⟩ = some (.int .i64 o.kind) := hr' 0 _ rfl
          have q1 : wr.cell? ⟨b, off + k * 5 + 1, none⟩ = some (.int .i64 o.at_) := hr' 1 _ rfl
          have q2 : wr.cell? ⟨b, off + k * 5 + 2, none⟩ = some (.int .i64 o.many) := hr' 2 _ rfl
          have q3 : wr.cell? ⟨b, off + k * 5 + 3, none⟩ = some (.slice o.B o.nB o.cB) := hr' 3 _ rfl
          have q4 : wr.cell? ⟨b, off + k * 5 + 4, none⟩ = some (.slice o.K o.nK o.cK) := hr' 4 _ rfl
          have hk0 : (0 : Int) ≤ (k : Int) := Int.natCast_nonneg _
          have hk1 : (k : Int) < (n1 : Int) := by omega
          have Hok := Lib.hid hok
          clear hr hr' hok
          by_cases hk2 : o.kind = 2
          · rw [hk2] at q0
            have HBx : Hid (Blk (wr.alloc (.cells #[.int .i64 2, .int .i64 o.at_, .int .i64 o.many, .slice o.B o.nB o.cB, .slice o.K o.nK o.cK] 34)) wr.heap.size 34 [.int .i64 2, .int .i64 o.at_, .int .i64 o.many, .slice o.B o.nB o.cB, .slice o.K o.nK o.cK]) := Blk.new wr 34 [.int .i64 2, .int .i64 o.at_, .int .i64 o.many, .slice o.B o.nB o.cB, .slice o.K o.nK o.cK]
            have hw := Write_c (wr.alloc (.cells #[.int .i64 2, .int .i64 o.at_, .int .i64 o.many, .slice o.B o.nB o.cB, .slice o.K o.nK o.cK] 34)) (fun j => (w.heap.size ≤ j ∧ j ≠ gw ∧ j ≠ gb) ∧ j ≠ wr.heap.size) (fun j hj => by simp at hj; exact ⟨⟨by omega, by omega, by omega⟩, by omega⟩) p d ((HH.out.below.alloc _).mono fun j _ hj => ⟨hj.1, by omega⟩) (by have := HD.out.2.2.1; omega) o.at_ Hok.out.a1.1 Hok.out.a1.2 o.B o.nB o.cB o.xs
              (Src.alloc ⟨by rw [cb_length]; exact Hok.out.hB.1, fun hp => by
                obtain ⟨ad, e1, e2, e3⟩ := Hok.out.hB.2 hp
                exact ⟨ad, e1, fun hx => by have := hx.1.1; omega, fun j u hu => (HO.out.cell (p := ad.add j) (by rw [add_block]; omega)).trans (e3 j u hu)⟩⟩ _) Hok.out.cB.1 Hok.out.cB.2 (by have := HD.out.2.2.2.1; omega)
            clear hk2
            rcases write_cases HD.out.1 HD.out.2.1 o.at_ o.xs with ⟨he, ha0, haM, hmod, hpos⟩ | ⟨he1, he2⟩
            · obtain ⟨a, hae⟩ : ∃ a : Nat, o.at_ = (a : Int) := ⟨o.at_.toNat, by omega⟩
              obtain ⟨M, hM⟩ : ∃ M, M = o.xs.length / 64 := ⟨_, rfl⟩
              have hnB : o.xs.length = o.nB := Hok.out.hB.1
              have ha' : o.at_.toNat = a := by omega
              rw [he] at hw
              rw [ha', ← hM] at hw haM
              have HW := Lib.hid hw
              have HM : Hid (M = o.nB / 64 ∧ a + M ≤ N) := ⟨by rw [hM, hnB], by have := HD.out.2.2.2.2.2; omega⟩
              rw [hae] at q1 HBx HW
              have haI : (0 : Int) ≤ (a : Int) := Int.natCast_nonneg _
              have hnBi : (o.nB : Int) ≤ 9223372036854775807 := by have h1 := Hok.out.cB.1; have h2 := Hok.out.cB.2; simp only [maxLen] at h2; omega
              have haN : (a : Int) ≤ 64 := by have := HM.out.2; have := HXN.out.1; omega
              clear hw he ha0 haM hmod hpos hM hnB ha' hae
              go_wp2_with (go_at_call 13; refine HW.out.mono ?_; rintro e w3 ⟨rfl, hh3, ho3⟩; have H3 := Lib.hid (And.intro hh3 ho3); have z1 := (ho3.cell (p := ⟨wr.heap.size, 1, none⟩) (by simp)).trans (HBx.out.cell 1); have z3 := (ho3.cell (p := ⟨wr.heap.size, 3, none⟩) (by simp)).trans (HBx.out.cell 3); simp only [List.getElem?_cons_succ, List.getElem?_cons_zero] at z1 z3; clear hh3 ho3)
              have HO3 : Hid (Only (w.heap.size ≤ ·) w w3) := (HO.out.alloc (fun _ h => h) _).trans (H3.out.2.mono fun j hj => hj.1.1)
              have HB3 : Hid (Blk w3 gb 4 (bb (marks N (d.row ++ chunks a o.xs 0)))) := by
                show Blk _ _ _ _
                have e : chunks a o.xs 0 = [] := rfl
                rw [e, List.append_nil]
                exact (HBB.out.alloc _).only H3.out.2 (by simp)
              have HZ := Lib.hid (And.intro z1 z3)
              have hgr : gb ≠ wr.heap.size := by omega
              have hsz3 := HO3.out.size
              clear z1 z3 q0 q1 q2 q3 q4
              go_loopw [66] (fun i wx => ∃ j : Nat, j ≤ M ∧ i = .int .i64 j ∧ Blk wx gb 4 (bb (marks N (d.row ++ chunks a o.xs j))) ∧ Only (· = gb) w3 wx) (fun i _ => M - (intOf i).toNat)
              case atStart => exact ⟨0, Nat.zero_le _, rfl, HB3.out, Only.refl _ _⟩
              case round =>
                obtain ⟨j, hj, rfl, hbx, hox⟩ := hrel
                have HBX := Lib.hid hbx
                have HOX := Lib.hid hox
                have hMb : (M : Int) ≤ 64 := by have := HM.out.2; have := HXN.out.1; omega
                clear hbx hox
                by_cases hjm : j < M
                · have hj0 : (0 : Int) ≤ (j : Int) := Int.natCast_nonneg _
                  have hjd : (j : Int) < (o.nB : Int) / 64 := by have := HM.out.1; omega
                  have k1 := (HOX.out.cell (fun h => hgr h.symm)).trans HZ.out.1
                  have hi0 : (0 : Int) ≤ (a : Int) + (j : Int) := by omega
                  have hi1 : (a : Int) + (j : Int) < (N : Int) := by have := HM.out.2; omega
                  have hi2 : IntKind.i64.wrap ((a : Int) + (j : Int)) = (a : Int) + (j : Int) := IntWalk.i64_in _ (by omega)
                  have hi3 : ((a : Int) + (j : Int)).toNat = a + j := by omega
                  obtain ⟨bo, hbo⟩ : ∃ bo, wr.cell? ⟨gb, a + j, none⟩ = some (.bool bo) := by
                    rw [HBX.out.cell (a + j)]
                    have : a + j < (marks N (d.row ++ chunks a o.xs j)).length := by rw [marks_length]; omega
                    exact ⟨_, by rw [bb, List.getElem?_map, List.getElem?_eq_getElem this]; rfl⟩
                  have hfz : wr.frozen? ⟨gb, a + j, none⟩ = false := HBX.out.frozen _
                  have HN : Hid (Blk (wr.setCell ⟨gb, a + j, none⟩ (.bool true)) gb 4 (bb (marks N (d.row ++ chunks a o.xs (j + 1)))) ∧ Only (· = gb) w3 (wr.setCell ⟨gb, a + j, none⟩ (.bool true))) := by
                    refine ⟨?_, HOX.out.setCell rfl _⟩
                    rw [marks_next, bb, List.map_set]
                    exact HBX.out.set_ (a + j) (.bool true)
                  go_wp2
                  go_roundw
                  case rel => exact ⟨j + 1, by omega, by go_num, HN.out.1, HN.out.2⟩
                  case measure => simp [intOf]; omega
                · have hjd : ¬ (j : Int) < (o.nB : Int) / 64 := by have := HM.out.1; omega
                  have HN : Hid (SRel w p gw gb X N (k + 1) wr) := by
                    obtain ⟨e1, e2, e3, e4, e5, e6⟩ := HD.out
                    have hjj : j = M := by omega
                    rw [← hjj] at H3
                    refine ⟨{ d with row := d.row ++ chunks a o.xs j, ops := d.ops + 1 }, (H3.out.1.keep HOX.out (fun i hi _ => by have := hi.1.2.2; exact this)).mono (fun i _ hi => hi.1), ?_, HBX.out, e5, e6, e1, e2, by show d.ops + 1 ≤ k + 1 + 1; omega, ?_, HO3.out.trans (HOX.out.mono fun i hi => by show w.heap.size ≤ i; have := HG.out.2.2; have : i = gb := hi; omega)⟩
                    · exact ((HBW.out.alloc _).only H3.out.2 (by simp)).only HOX.out (by have := HG.out.2.1; show ¬ gw = gb; omega)
                    · show (d.row ++ chunks a o.xs j).length ≤ (k + 1) * 64
                      rw [List.length_append, chunks_length]
                      have := HM.out.2
                      have := HXN.out.1
                      omega
                  go_wp2
                  go_roundw
                  case rel => exact ⟨k + 1, by omega, by go_num, HN.out⟩
                  case measure => simp [intOf]; omega
            · obtain ⟨d', E, hdE⟩ : ∃ d' E, d.write o.at_ o.xs = (d', E) := ⟨_, _, rfl⟩
              rw [hdE] at hw he1 he2
              simp only at he1 he2
              subst he1
              have hE : (E != 0) = true := by rw [bne, he2]; rfl
              have HW := Lib.hid hw
              clear hw hdE he2
              go_wp2_with (go_at_call 13; refine HW.out.mono ?_; rintro e w3 ⟨rfl, hh3, ho3⟩; have H3 := Lib.hid (And.intro hh3 ho3); clear hh3 ho3)
              have HN : Hid (SRel w p gw gb X N (k + 1) w3) := by
                obtain ⟨e1, e2, e3, e4, e5, e6⟩ := HD.out
                exact ⟨d', H3.out.1.mono (fun j _ hj => hj.1), (HBW.out.alloc _).only H3.out.2 (by simp), (HBB.out.alloc _).only H3.out.2 (by simp), e5, e6, e1, e2, by omega, by omega, (HO.out.alloc (fun _ h => h) _).trans (H3.out.2.mono fun j hj => hj.1.1)⟩
              go_roundw
              case rel => exact ⟨k + 1, by omega, by go_num, HN.out⟩
              case measure => simp [intOf]; omega
          · have t2 : (o.kind != 2) = true := by simpa using hk2
            have HN : Hid (SRel w p gw gb X N (k + 1) (wr.alloc (.cells o.cells.toArray 34))) := by
              obtain ⟨e1, e2, e3, e4, e5, e6⟩ := HD.out
              exact ⟨d, HH.out.alloc _, HBW.out.alloc _, HBB.out.alloc _, e5, e6, e1, e2, by omega, by omega, HO.out.alloc (fun _ h => h) _⟩
            clear hk2
            go_wp2
            go_roundw
            case rel => exact ⟨k + 1, by omega, by go_num, HN.out⟩
            case measure => simp [intOf]; omega
        · have hkm : ¬ (k : Int) < (n1 : Int) := by omega
          have hrl : d.row.length ≤ 4294967296 := by have := HD.out.2.2.2.1; omega
          have hsk : Hid (SrcB wr (fun j => w.heap.size ≤ j ∧ j ≠ gw ∧ j ≠ gb) A2 kl) := by
            intro hp
            obtain ⟨ad, e1, e2, e3⟩ := HBs.out.1 hp
            have e2' : ad.block < w.heap.size := by simpa using e2
            exact ⟨ad, e1, fun hx => by have := hx.1; omega, fun j b hb => (HO.out.cell (p := ad.add j) (by rw [add_block]; simp; omega)).trans (e3 j b hb)⟩
          have hn : (d.crash kl).n = N := HD.out.2.2.2.2.2
          have HZ : Hid ((d.crash kl).see.length = N * 64 ∧ ∀ s : Nat, (marks N d.row)[s]? = some false → ((d.crash kl).see.drop (s * 64)).take 64 = (X.drop (s * 64)).take 64) := by
            have hwf := HH.out.1
            have e5 := HD.out.2.2.2.2.1
            have e6 := HD.out.2.2.2.2.2
            have hf := hwf.fits
            refine ⟨?_, fun s hs => ?_⟩
            · rw [← e6]
              exact look_length [] _ (fun _ h => by cases h) (look_length _ _ (kept_fits hf) hwf.len)
            · rw [← e6] at hs
              rw [← e5]
              exact crash_apart hwf kl s hs
          have hkl := HBs.out.2
          clear hk hlt
          go_wp2_with fail
          refine (Crash_c wr (fun j => w.heap.size ≤ j ∧ j ≠ gw ∧ j ≠ gb) (fun j hj => ⟨by omega, by omega, by omega⟩) p d HH.out hrl A2 c2 n2 kl hkl hsk.out (by omega)).mono ?_
          rintro e x1 ⟨rfl, hh1, ho1⟩
          have C1 : Hid (Holds x1 (fun j => w.heap.size ≤ j ∧ j ≠ gw ∧ j ≠ gb) p (d.crash kl)) := hh1
          have W1 : Hid (Blk x1 gw 5 (cb X)) := HBW.out.only ho1 (by simp)
          have B1 : Hid (Blk x1 gb 4 (bb (marks N d.row))) := HBB.out.only ho1 (by simp)
          have O1 : Hid (Only (w.heap.size ≤ ·) w x1) := HO.out.trans (ho1.mono fun j hj => hj.1)
          clear hh1 ho1 hkl
          have hs1 := O1.out.size
          have hi := Image_c x1 _ p _ C1.out
          rw [hn] at hi
          generalize (d.crash kl).see = Z at hi HZ
          have HI := Lib.hid hi
          clear hi
          go_wp2_with fail
          refine HI.out.mono ?_
          rintro e x2 ⟨rfl, hb2, ho2⟩
          obtain ⟨gi, hgi⟩ : ∃ g, g = x1.heap.size := ⟨_, rfl⟩
          rw [← hgi]
          have HK : Hid (Blk x2 gi 5 (cb Z) ∧ Blk x2 gw 5 (cb X) ∧ Blk x2 gb 4 (bb (marks N d.row)) ∧ Only (w.heap.size ≤ ·) w x2) := by
            have := W1.out.lt
            have := B1.out.lt
            exact ⟨by rw [hgi]; exact hb2, W1.out.only ho2 (by simp; omega), B1.out.only ho2 (by simp; omega), O1.out.trans (ho2.mono fun j (hj : x1.heap.size ≤ j) => by show w.heap.size ≤ j; omega)⟩
          clear hb2 ho2 hgi
          have hNb : (N : Int) ≤ 64 := by have := HXN.out.1; omega
          go_wp2
          go_loopw [89] (fun i wx => ∃ k : Nat, k ≤ N ∧ i = .int .i64 k ∧ Blk wx gi 5 (cb Z) ∧ Blk wx gw 5 (cb X) ∧ Blk wx gb 4 (bb (marks N d.row)) ∧ Only (w.heap.size ≤ ·) w wx) (fun i _ => N - (intOf i).toNat)
          case atStart => exact ⟨0, Nat.zero_le _, rfl, HK.out⟩
          case round =>
            obtain ⟨s, hs, rfl, hbi, hbw, hbb, ho⟩ := hrel
            have HBI := Lib.hid hbi
            have HBV := Lib.hid hbw
            have HBM := Lib.hid hbb
            have HOV := Lib.hid ho
            clear hbi hbw hbb ho
            by_cases hlt : s < N
            · have hs0 : (0 : Int) ≤ (s : Int) := Int.natCast_nonneg _
              have hs1' : (s : Int) < (N : Int) := by omega
              obtain ⟨bo, hbo⟩ : ∃ bo, (marks N d.row)[s]? = some bo := ⟨_, List.getElem?_eq_getElem (by rw [marks_length]; exact hlt)⟩
              have hcell : wr.cell? ⟨gb, s, none⟩ = some (.bool bo) := by
                rw [HBM.out.cell s, bb, List.getElem?_map, hbo]
                rfl
              cases bo with
              | true =>
                clear hbo
                go_wp2
                go_quiet (fail)
                go_wp2
                go_roundw
                case rel => exact ⟨s + 1, by omega, by go_num, HBI.out.drewN _, HBV.out.drewN _, HBM.out.drewN _, HOV.out.drewN _⟩
                case measure => simp [intOf]; omega
              | false =>
                have Heq : Hid (∀ m, Calls Try.prog 15 #[.slice (some ⟨gi, s * 64, none⟩) ((s + 1) * 64 - s * 64) (N * 64 - s * 64), .slice (some ⟨gw, s * 64, none⟩) ((s + 1) * 64 - s * 64) (N * 64 - s * 64)] (wr.drewN m) fun e w' => e = .returned (.bool true) ∧ w' = wr.drewN m) := by
                  intro m
                  refine (says (Equal_c (wr.drewN m) _ _ _ _ _ _ _ _ (txt_part (HBI.out.drewN m) HZ.out.1 hlt) (txt_part (HBV.out.drewN m) HXN.out.2 hlt)) (b := .bool true) (by rw [HZ.out.2 s hbo]; simp)).mono ?_
                  rintro e w' ⟨h1, h2⟩
                  exact ⟨h1, h2.symm⟩
                clear hbo
                have w4' : IntKind.i64.wrap ((s : Int) * 64) = (s : Int) * 64 := IntWalk.i64_in _ (by omega)
                have w5' : ((s : Int) * 64).toNat = s * 64 := by omega
                have w6' : IntKind.i64.wrap ((s : Int) + 1) = (s : Int) + 1 := IntWalk.i64_in _ (by omega)
                have w7' : IntKind.i64.wrap (((s : Int) + 1) * 64) = ((s : Int) + 1) * 64 := IntWalk.i64_in _ (by omega)
                have w8' : (((s : Int) + 1) * 64).toNat = (s + 1) * 64 := by omega
                have b3 : (0 : Int) ≤ (s : Int) * 64 := by omega
                have b4 : (s : Int) * 64 ≤ ((s : Int) + 1) * 64 := by omega
                have b5 : ((s : Int) + 1) * 64 ≤ (N : Int) * 64 := by omega
                have b7 : ¬ (N * 64 = s * 64) := by omega
                have b9 : (0 : Int) ≤ ((s : Int) + 1) * 64 := by omega
                have b10 : (s : Int) ≤ (s : Int) + 1 := by omega
                go_wp2
                go_quiet ((go_at_call 15; refine Calls.quiet_of_same (Heq.out _)))
                go_wp2
                go_roundw
                case rel => exact ⟨s + 1, by omega, by go_num, HBI.out.drewN _, HBV.out.drewN _, HBM.out.drewN _, HOV.out.drewN _⟩
                case measure => simp [intOf]; omega
            · have hsn : ¬ (s : Int) < (N : Int) := by omega
              go_wp2_with fail
              refine (Halive.out wr HOV.out).mono ?_
              rintro e w' ⟨rfl, ho⟩
              have HF := Lib.hid ho
              clear ho
              go_wp2_with fail
              go_ret
              exact ⟨rfl, HF.out⟩
end Go.Proofs.Ytelgeddheheokaa
