/-
  DiskFuse: its walk, over an image, a number and a script in memory.
-/
import Derived.Test.YtelgeddheheokaaFuse
import Derived.Test.YtelgeddheheokaaKeep
set_option linter.unusedVariables false
namespace Go.Proofs.Ytelgeddheheokaa
open Go.RowKit

/-- What holds at the head of each round. -/
def FRel (w : World) (p : Nat) (n : Int) (k : Nat) (wr : World) : Prop :=
  ∃ d : Dsk, Holds wr (w.heap.size ≤ ·) p d ∧ Fz n d ∧ d.limit = 64 ∧ d.ops ≤ k ∧ d.row.length ≤ k * 64 ∧ Only (w.heap.size ≤ ·) w wr

set_option maxRecDepth 100000 in
set_option maxHeartbeats 3200000 in
theorem fuse_walk (w : World) (A0 A1 : Option Addr) (n0 c0 n1 c1 : Nat) (n : Int) (hn : -9223372036854775808 ≤ n) (hn' : n ≤ 9223372036854775807) (xs : Bytes) (l : List Cl) (h0 : Src w (w.heap.size ≤ ·) A0 n0 (cb xs)) (hc0 : n0 ≤ c0) (hm0 : c0 ≤ maxLen) (h1 : Script w A1 n1 l) :
    Calls Try.prog 5 #[.slice A0 n0 c0, .int .i64 n, .slice A1 n1 c1] w fun e w' => e = .returned (.bool true) ∧ Only (w.heap.size ≤ ·) w w' := by
  have hm0' : (n0 : Int) ≤ 9223372036854775807 := by simp only [maxLen] at hm0; omega
  have hxl : xs.length = n0 := by have := h0.1; rwa [cb_length] at this
  have HSrc := Lib.hid h0
  have HScr := Lib.hid h1
  have Hm := Lib.hid (And.intro hc0 hm0)
  have HX := Lib.hid hxl
  clear h0 h1 hc0 hm0 hxl
  go_enter Try.func5, Try.ntmps5
  go_wp2_with fail
  refine (few_c w A1 n1 c1 l HScr.out).mono ?_
  rintro e w0 ⟨r, rfl, h60, ho0⟩
  have H60 := Lib.hid h60
  have HO0 := Lib.hid ho0
  clear h60 ho0
  have Halive : Hid (∀ W : World, Only (w.heap.size ≤ ·) w W → Calls Try.prog 8 #[] W fun e w' => e = .returned (.bool true) ∧ Only (w.heap.size ≤ ·) w w') := fun W hW =>
    (alive_c W).mono fun e w' ⟨he, ho⟩ => ⟨he, hW.trans (ho.mono fun k (hk : W.heap.size ≤ k) => Nat.le_trans hW.size hk)⟩
  cases r with
  | false =>
    go_wp2_with (go_at_call 8; refine (Halive.out _ HO0.out).mono ?_; rintro e w' ⟨rfl, ho⟩; have HF := Lib.hid ho; clear ho)
    all_goals
      go_ret
      exact ⟨rfl, HF.out⟩
  | true =>
    have Hn1 : Hid (n1 ≤ 60) := H60.out rfl
    by_cases hbig : 3000 < n0 ∨ 1000 < n
    · have d1 : (decide ((3000 : Int) < (n0 : Int)) = true) ∨ (decide ((3000 : Int) < (n0 : Int)) = false ∧ decide (1000 < n) = true) := by
        by_cases h3 : 3000 < n0
        · left; simp; omega
        · right; constructor
          · simp; omega
          · simp; omega
      clear hbig
      rcases d1 with d1 | ⟨d1, d2⟩
      all_goals
        go_wp2_with (go_at_call 8; refine (Halive.out _ HO0.out).mono ?_; rintro e w' ⟨rfl, ho⟩; have HF := Lib.hid ho; clear ho)
        all_goals
          go_ret
          exact ⟨rfl, HF.out⟩
    · have d1 : decide ((3000 : Int) < (n0 : Int)) = false := by simp; omega
      have d2 : decide (1000 < n) = false := by simp; omega
      have hn3 : n ≤ 1000 := by omega
      have hsz0 := HO0.out.size
      have HL : Hid (∃ _ : True, Calls Try.prog 9 #[.slice A0 n0 c0, .int .i64 64] w0 fun e w' => ∃ p, e = .returned (.pointer (some ⟨p, 0, none⟩)) ∧ Hid (Holds w' (w.heap.size ≤ ·) p (Dsk.load xs 64) ∧ Only (w.heap.size ≤ ·) w w')) := by
        refine ⟨trivial, ?_⟩
        have hs : Src w0 (w0.heap.size ≤ ·) A0 xs.length (cb xs) := by
          have hx := HX.out
          refine ⟨by rw [cb_length], fun hp => ?_⟩
          obtain ⟨ad, e1, e2, e3⟩ := HSrc.out.2 (by omega)
          refine ⟨ad, e1, by omega, fun j u hu => ?_⟩
          exact (HO0.out.cell (p := ad.add j) (by rw [add_block]; exact e2)).trans (e3 j u hu)
        have hl := Load_c w0 (w0.heap.size ≤ ·) (fun _ h => h) A0 c0 xs 64 hs (by have := HX.out; have := Hm.out.1; omega) Hm.out.2
        rw [HX.out] at hl
        refine hl.mono ?_
        rintro e w' ⟨p, he, hh, ho⟩
        exact ⟨p, he, hh.mono (fun k _ hk => Nat.le_trans hsz0 hk), HO0.out.trans (ho.mono fun k (hk : w0.heap.size ≤ k) => Nat.le_trans hsz0 hk)⟩
      go_wp2_with (first | (go_at_call 9; refine HL.out.2.mono ?_; rintro e w1 ⟨p, rfl, H1⟩) | (go_at_call 19; refine (Arm_c w1 _ p _ H1.out.1 n hn').mono ?_; rintro e w2 ⟨rfl, hh2, ho2⟩; have H2 := Lib.hid (And.intro hh2 ho2); clear hh2 ho2))
      have HK0 : Hid (FRel w p n 0 w2) := by
        refine ⟨(Dsk.load xs 64).arm n, H2.out.1, ?_, by simp [Dsk.load, Dsk.arm, cut], Nat.le_refl _, Nat.le_refl _, H1.out.2.trans H2.out.2⟩
        by_cases hz : 0 ≤ n
        · exact .inr ⟨hz, by simp [Dsk.arm, hz], .inr ⟨rfl, by simpa [Dsk.arm, Dsk.load] using hz, by simp [Dsk.arm, Dsk.load]; omega⟩⟩
        · exact .inl ⟨by omega, by simp [Dsk.arm]; omega, rfl⟩
      have hb60 : (n1 : Int) ≤ 60 := by have := Hn1.out; omega
      clear H1 H2 hbig
      go_loopw [37] (fun i wr => ∃ k : Nat, k ≤ n1 ∧ i = .int .i64 k ∧ FRel w p n k wr) (fun i _ => n1 - (intOf i).toNat)
      case atStart => exact ⟨0, Nat.zero_le _, rfl, HK0.out⟩
      case round =>
        obtain ⟨k, hk, rfl, d, hh, hfz, hlim, hops, hrow, honly⟩ := hrel
        have HH := Lib.hid hh
        have HD := Lib.hid (And.intro hfz (And.intro hlim (And.intro hops hrow)))
        have HO := Lib.hid honly
        have hszr := honly.size
        clear hh hfz hlim hops hrow honly HK0
        by_cases hlt : k < n1
        · obtain ⟨b, off, o, rfl, hb, _, hok, hr⟩ := HScr.out.at_ hlt
          have hr' := range_only hr HO.out (by omega)
          have q0 : wr.cell? ⟨b, off + k * 5, none⟩ = some (.int .i64 o.kind) := hr' 0 _ rfl
          have q1 : wr.cell? ⟨b, off + k * 5 + 1, none⟩ = some (.int .i64 o.at_) := hr' 1 _ rfl
          have q2 : wr.cell? ⟨b, off + k * 5 + 2, none⟩ = some (.int .i64 o.many) := hr' 2 _ rfl
          have q3 : wr.cell? ⟨b, off + k * 5 + 3, none⟩ = some (.slice o.B o.nB o.cB) := hr' 3 _ rfl
          have q4 : wr.cell? ⟨b, off + k * 5 + 4, none⟩ = some (.slice o.K o.nK o.cK) := hr' 4 _ rfl
          have hk0 : (0 : Int) ≤ (k : Int) := Int.natCast_nonneg _
          have hk1 : (k : Int) < (n1 : Int) := by omega
          have Hok := Lib.hid hok
          clear hr hr' hok
          by_cases hkk : 0 ≤ o.kind ∧ o.kind ≤ 3
          · obtain ⟨kk0, kk3⟩ := hkk
            have t1 : decide (o.kind < 0) = false := by simp; omega
            have t2 : decide (3 < o.kind) = false := by simp; omega
            have HBx : Hid (Blk (wr.alloc (.cells o.cells.toArray 34)) wr.heap.size 34 o.cells) := Blk.new wr 34 o.cells
            have HOk : Hid (Src wr (w.heap.size ≤ ·) o.B o.nB (cb o.xs)) := ⟨by rw [cb_length]; exact Hok.out.hB.1, fun hp => by
              obtain ⟨ad, e1, e2, e3⟩ := Hok.out.hB.2 hp
              exact ⟨ad, e1, by omega, fun j u hu => (HO.out.cell (p := ad.add j) (by rw [add_block]; omega)).trans (e3 j u hu)⟩⟩
            have HK : Hid (0 ≤ o.kind ∧ o.kind ≤ 3) := ⟨kk0, kk3⟩
            have Hww : Hid d.WF := HH.out.1
            clear kk0 kk3
            go_wp2_with fail
            refine (Image_c (wr.alloc (.cells o.cells.toArray 34)) _ p d (HH.out.alloc _)).mono ?_
            rintro e w1 ⟨rfl, hb1, ho1⟩
            have hsa : (wr.alloc (.cells o.cells.toArray 34)).heap.size = wr.heap.size + 1 := by simp
            rw [hsa] at hb1
            have hs1 : wr.heap.size + 1 < w1.heap.size := hb1.lt
            have hx1 : Blk w1 wr.heap.size 34 o.cells := HBx.out.only ho1 (by simp)
            have HI1 := Lib.hid hb1
            have HHx := Lib.hid hx1
            have HO1 : Hid (Only (w.heap.size ≤ ·) w w1) := (HO.out.alloc (fun _ h => h) _).trans (ho1.mono fun j (hj : _ ≤ j) => by rw [hsa] at hj; show w.heap.size ≤ j; omega)
            have H1 : Hid (Holds w1 (fun j => w.heap.size ≤ j ∧ j ≠ wr.heap.size ∧ j ≠ wr.heap.size + 1) p d) := ((HH.out.below.alloc _).keep ho1 (fun j hj _ => by rw [hsa]; omega)).mono fun j _ hj => ⟨hj.1, by omega, by omega⟩
            have HS1 : Hid (Src w1 (fun j => w.heap.size ≤ j ∧ j ≠ wr.heap.size ∧ j ≠ wr.heap.size + 1) o.B o.nB (cb o.xs)) := by
              refine ⟨HOk.out.1, fun hp => ?_⟩
              obtain ⟨ad, e1, e2, e3⟩ := HOk.out.2 hp
              refine ⟨ad, e1, fun hx => e2 hx.1, fun j u hu => ?_⟩
              have h1 := (HOk.out.alloc (.cells o.cells.toArray 34)).2 hp
              obtain ⟨ad', e1', e2', e3'⟩ := h1
              rw [e1] at e1'
              cases e1'
              exact (ho1.cell (p := ad.add j) (by rw [add_block, hsa]; have : ¬ w.heap.size ≤ ad.block := e2; omega)).trans (e3' j u hu)
            have r0 : w1.cell? ⟨wr.heap.size, 0, none⟩ = some (.int .i64 o.kind) := hx1.cell 0
            have r1 : w1.cell? ⟨wr.heap.size, 1, none⟩ = some (.int .i64 o.at_) := hx1.cell 1
            have r2 : w1.cell? ⟨wr.heap.size, 2, none⟩ = some (.int .i64 o.many) := hx1.cell 2
            have r3 : w1.cell? ⟨wr.heap.size, 3, none⟩ = some (.slice o.B o.nB o.cB) := hx1.cell 3
            have r4 : w1.cell? ⟨wr.heap.size, 4, none⟩ = some (.slice o.K o.nK o.cK) := hx1.cell 4
            clear hb1 ho1 hsa hx1 q0 q1 q2 q3 q4
            have HF1 : Hid (∀ j, w1.heap.size ≤ j → w.heap.size ≤ j ∧ j ≠ wr.heap.size ∧ j ≠ wr.heap.size + 1) := fun j hj => ⟨by omega, by omega, by omega⟩
            have HDo := Lib.hid (does_any w1 _ HF1.out p d H1.out (by have := HD.out.2.2.1; omega) (by have := HD.out.2.2.2; omega) o Hok.out.a1 HS1.out Hok.out.cB HK.out)
            have hnl : Hid (d.n ≤ 64) := by have := Hww.out.nl; have h2 := HD.out.2.1; show d.n ≤ 64; omega
            cases hdn : d.down with
            | true =>
              have hdn2 := Lib.hid hdn
              have HE : Hid (d.step o = (d, 10)) := Lib.hid (step_down hdn o)
              have HDo2 : Hid (Calls Try.prog 16 #[.pointer (some ⟨p, 0, none⟩), .agg #[.int .i64 o.kind, .int .i64 o.at_, .int .i64 o.many, .slice o.B o.nB o.cB, .slice o.K o.nK o.cK]] w1 fun e w' =>
                  ∃ v, e = .returned (.tuple #[v, .int .i64 10]) ∧ Hid (Holds w' (fun j => w.heap.size ≤ j ∧ j ≠ wr.heap.size ∧ j ≠ wr.heap.size + 1) p d ∧ Only (fun j => w.heap.size ≤ j ∧ j ≠ wr.heap.size ∧ j ≠ wr.heap.size + 1) w1 w')) := by
                have := HDo.out
                rw [HE.out] at this
                exact this
              have hfd : decide (0 ≤ n) = true ∧ decide (n < (d.ops : Int)) = true := by
                have := HD.out.1.down
                rw [hdn] at this
                simpa using this.symm
              obtain ⟨f1, f2⟩ := hfd
              clear hdn HDo
              go_wp2_with fail
              refine (says (Down_c w1 _ p d H1.out) (b := .bool true) (by rw [hdn2.out])).mono ?_
              rintro e w' ⟨rfl, rfl⟩
              go_wp2_with fail
              refine (Ops_c w1 _ p d H1.out).mono ?_
              rintro e w' ⟨rfl, rfl⟩
              go_wp2_with fail
              refine HDo2.out.mono ?_
              rintro e w2 ⟨v, rfl, H2⟩
              go_wp2_with fail
              refine (Image_c w2 _ p d H2.out.1).mono ?_
              rintro e w3 ⟨rfl, hb3, ho3⟩
              have H3 := Lib.hid (And.intro hb3 ho3)
              clear hb3 ho3
              have HI3 : Hid (Blk w3 (wr.heap.size + 1) 5 (cb d.see)) := (HI1.out.only H2.out.2 (by simp)).only H3.out.2 (by have := H2.out.2.size; omega)
              have HH3 : Hid (Holds w3 (w.heap.size ≤ ·) p d) := (H2.out.1.keep H3.out.2 (fun j _ hj => by simp; omega)).mono fun j _ hj => hj.1
              have HO3 : Hid (Only (w.heap.size ≤ ·) w w3) := (HO1.out.trans (H2.out.2.mono fun j hj => hj.1)).trans (H3.out.2.mono fun j (hj : w2.heap.size ≤ j) => by have := H2.out.2.size; show w.heap.size ≤ j; omega)
              go_wp2_with fail
              refine (says (Equal_c w3 _ _ _ _ _ _ _ _ (txt_of HI3.out Hww.out.see) (txt_of H3.out.1 Hww.out.see)) (b := .bool true) (by simp)).mono ?_
              rintro e w' ⟨rfl, rfl⟩
              go_wp2_with fail
              refine (Ops_c w3 _ p d HH3.out).mono ?_
              rintro e w' ⟨rfl, rfl⟩
              go_wp2_with fail
              refine (says (Down_c w3 _ p d HH3.out) (b := .bool true) (by rw [hdn2.out])).mono ?_
              rintro e w' ⟨rfl, rfl⟩
              go_wp2_with fail
              refine (Ops_c w3 _ p d HH3.out).mono ?_
              rintro e w' ⟨rfl, rfl⟩
              have HN : Hid (FRel w p n (k + 1) w3) := by
                obtain ⟨e1, e2, e3, e4⟩ := HD.out
                exact ⟨d, HH3.out, e1, e2, by omega, by omega, HO3.out⟩
              go_wp2
              go_roundw
              case rel => exact ⟨k + 1, by omega, by go_num, HN.out⟩
              case measure => simp [intOf]; omega
            | false =>
              have hdn2 := Lib.hid hdn
              obtain ⟨d', E, hE⟩ : ∃ d' E, d.step o = (d', E) := ⟨_, _, rfl⟩
              have hup := step_up HD.out.1 hdn o hnl.out HD.out.2.1 Hww.out
              have hdo := HDo.out
              rw [hE] at hup hdo
              obtain ⟨u1, u2, u3, u4, u5⟩ := hup
              simp only at u1 u2 u3 u4 u5
              have HDo2 := Lib.hid hdo
              have hdw := u1.down
              have HU := Lib.hid (And.intro u1 (And.intro u3 (And.intro u4 u5)))
              obtain ⟨b', hb'⟩ : ∃ b', d'.down = b' := ⟨_, rfl⟩
              have hEb : (E == 10) = b' := by rw [← hb', u2]; rfl
              have HB' := Lib.hid hb'
              rw [hb'] at hdw
              clear hdn HDo hdo hE u1 u2 u3 u4 u5 hb'
              by_cases hz : 0 ≤ n
              · have f1 : decide (0 ≤ n) = true := by simpa using hz
                have f2 : decide (n < (d'.ops : Int)) = b' := by rw [hdw, f1]; rfl
                clear hdw hz
                cases b'
                all_goals
                  go_wp2_with fail
                  refine (says (Down_c w1 _ p d H1.out) (b := .bool false) (by rw [hdn2.out])).mono ?_
                  rintro e w' ⟨rfl, rfl⟩
                  go_wp2_with fail
                  refine (Ops_c w1 _ p d H1.out).mono ?_
                  rintro e w' ⟨rfl, rfl⟩
                  go_wp2_with fail
                  refine HDo2.out.mono ?_
                  rintro e w2 ⟨v, rfl, H2⟩
                  go_wp2_with fail
                  refine (says (Down_c w2 _ p d' H2.out.1) (by rw [HB'.out])).mono ?_
                  rintro e w' ⟨rfl, rfl⟩
                  go_wp2_with fail
                  refine (Ops_c w2 _ p d' H2.out.1).mono ?_
                  rintro e w' ⟨rfl, rfl⟩
                  go_wp2_with fail
                  refine (says (Down_c w2 _ p d' H2.out.1) (by rw [HB'.out])).mono ?_
                  rintro e w' ⟨rfl, rfl⟩
                  have HN : Hid (FRel w p n (k + 1) w2) := by
                    obtain ⟨e1, e2, e3, e4⟩ := HD.out
                    obtain ⟨g1, g2, g3, g4⟩ := HU.out
                    exact ⟨d', H2.out.1.mono (fun j _ hj => hj.1), g1, g4, by omega, by omega, HO1.out.trans (H2.out.2.mono fun j hj => hj.1)⟩
                  go_wp2
                  go_roundw
                  case rel => exact ⟨k + 1, by omega, by go_num, HN.out⟩
                  case measure => simp [intOf]; omega
              · have f1 : decide (0 ≤ n) = false := by simpa using hz
                obtain rfl : b' = false := by rw [hdw, f1]; rfl
                clear hdw hz
                go_wp2_with fail
                refine (says (Down_c w1 _ p d H1.out) (b := .bool false) (by rw [hdn2.out])).mono ?_
                rintro e w' ⟨rfl, rfl⟩
                go_wp2_with fail
                refine (Ops_c w1 _ p d H1.out).mono ?_
                rintro e w' ⟨rfl, rfl⟩
                go_wp2_with fail
                refine HDo2.out.mono ?_
                rintro e w2 ⟨v, rfl, H2⟩
                go_wp2_with fail
                refine (says (Down_c w2 _ p d' H2.out.1) (b := .bool false) (by rw [HB'.out])).mono ?_
                rintro e w' ⟨rfl, rfl⟩
                go_wp2_with fail
                refine (says (Down_c w2 _ p d' H2.out.1) (b := .bool false) (by rw [HB'.out])).mono ?_
                rintro e w' ⟨rfl, rfl⟩
                have HN : Hid (FRel w p n (k + 1) w2) := by
                  obtain ⟨e1, e2, e3, e4⟩ := HD.out
                  obtain ⟨g1, g2, g3, g4⟩ := HU.out
                  exact ⟨d', H2.out.1.mono (fun j _ hj => hj.1), g1, g4, by omega, by omega, HO1.out.trans (H2.out.2.mono fun j hj => hj.1)⟩
                go_wp2
                go_roundw
                case rel => exact ⟨k + 1, by omega, by go_num, HN.out⟩
                case measure => simp [intOf]; omega
          · have hkk' : (decide (o.kind < 0) = true) ∨ (decide (o.kind < 0) = false ∧ decide (3 < o.kind) = true) := by
              by_cases h3 : o.kind < 0
              · left; simp; omega
              · right; constructor
                · simp; omega
                · simp; omega
            have HN : Hid (FRel w p n (k + 1) (wr.alloc (.cells o.cells.toArray 34))) := by
              obtain ⟨e1, e2, e3, e4⟩ := HD.out
              exact ⟨d, HH.out.alloc _, e1, e2, by omega, by omega, HO.out.alloc (fun _ h => h) _⟩
            clear hkk
            rcases hkk' with d3 | ⟨d3, d4⟩
            all_goals
              go_wp2
              go_roundw
              case rel => exact ⟨k + 1, by omega, by go_num, HN.out⟩
              case measure => simp [intOf]; omega
        · have hkm : ¬ (k : Int) < (n1 : Int) := by omega
          have hrl : d.row.length ≤ 4294967296 := by have := HD.out.2.2.2; omega
          have hol : d.ops < 4611686018427387904 := by have := HD.out.2.2.1; omega
          clear hk hlt
          go_wp2_with fail
          refine (Crash_c wr (w.heap.size ≤ ·) (fun j hj => Nat.le_trans hszr hj) p d HH.out hrl none 0 0 [] rfl (fun h => absurd h (by decide)) (by omega)).mono ?_
          rintro e x1 ⟨rfl, hh1, ho1⟩
          have C1 : Hid (Holds x1 (w.heap.size ≤ ·) p (d.crash [])) := hh1
          have O1 : Hid (Only (w.heap.size ≤ ·) w x1) := HO.out.trans ho1
          clear hh1 ho1
          go_wp2_with fail
          refine (alive_c x1).mono ?_
          rintro e x2 ⟨rfl, ho2⟩
          have K2 : Hid (After x1 x2 0) := ⟨ho2, Nat.zero_le _⟩
          have hs2 := ho2.size
          clear ho2
          have C2 : Hid (Holds x2 (w.heap.size ≤ ·) p (d.crash [])) := K2.out.holds C1.out
          have hs1 := O1.out.size
          have O2 : Hid (Only (w.heap.size ≤ ·) w x2) := O1.out.trans (K2.out.1.mono fun j (hj : x1.heap.size ≤ j) => Nat.le_trans hs1 hj)
          go_wp2_with fail
          refine (says (Down_c x2 _ p _ C2.out) (b := .bool false) rfl).mono ?_
          rintro e w' ⟨rfl, rfl⟩
          go_wp2_with fail
          refine (says (Sync_c x2 (w.heap.size ≤ ·) (fun j hj => by omega) p _ C2.out hol (Nat.zero_le _)) (b := .int .i64 0) (by rw [sync_facts rfl rfl])).mono ?_
          rintro e x3 ⟨rfl, hh3, ho3⟩
          have O3 : Hid (Only (w.heap.size ≤ ·) w x3) := O2.out.trans ho3
          clear hh3 ho3
          go_wp2_with fail
          go_ret
          exact ⟨rfl, O3.out⟩
end Go.Proofs.Ytelgeddheheokaa
