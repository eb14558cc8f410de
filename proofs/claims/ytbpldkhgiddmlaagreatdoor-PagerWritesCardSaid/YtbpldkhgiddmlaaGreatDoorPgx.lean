/-
  Right.
-/
import Derived.Test.YtbpldkhgiddmlaaGreatDoorPgr
set_option linter.unusedVariables false
namespace Go.Proofs.YtbpldkhgiddmlaaGreatDoor
open Go.RowKit

theorem wts_get {w : World} {A : Option Addr} {n c k : Nat} {l : List Wt} (h : Wts w (.slice A n c) l) (hk : k < n) : ∃ (b off : Nat) (x : Wt) (P : Option Addr) (cp : Nat), A = some ⟨b, off, none⟩ ∧ l[k]? = some x ∧ w.cell? ⟨b, off + k * 2, none⟩ = some (.int .i64 x.1) ∧ w.cell? ⟨b, off + k * 2 + 1, none⟩ = some (.slice P x.2.length cp) ∧ Src w (.slice P x.2.length cp) x.2 := by
  obtain ⟨b, off, x, cs, e, hb, hx, ⟨P, cp, rfl, h1⟩, hc⟩ := Rw.at_ (E := wrE) (by decide) h hk
  exact ⟨b, off, x, P, cp, e, hx, hc 0 _ rfl, hc 1 _ rfl, h1⟩
def putB (bits : List Bool) (a m : Nat) : List Bool := over bits a (List.replicate m true)
/-- May these be written, beside pages that are written already? -/
def rightL (N : Nat) : List Bool → List Wt → Bool
  | _, [] => true
  | bits, x :: r => if fitW N x = true then (if true ∈ (bits.drop x.1.toNat).take (x.2.length / 256) then false else rightL N (putB bits x.1.toNat (x.2.length / 256)) r) else false
def pgRight (ok : Bool) (N : Int) (l : List Wt) : Bool := ok && rightL N.toNat (List.replicate N.toNat false) l
theorem putB_len {bits : List Bool} {a m : Nat} (h : a + m ≤ bits.length) : (putB bits a m).length = bits.length := over_length _ _ _ (by simpa using h)
theorem putB_succ {bits : List Bool} {a m : Nat} (h : a + (m + 1) ≤ bits.length) : (putB bits a m).set (a + m) true = putB bits a (m + 1) := by
  apply List.ext_getElem?
  intro i
  rw [List.getElem?_set]
  unfold putB
  rw [over_get _ _ _ (by simp; omega), over_get _ _ _ (by simp; omega), over_length _ _ _ (by simp; omega)]
  simp only [List.length_replicate, List.getElem?_replicate]
  by_cases h1 : a + m = i
  · subst h1
    rw [if_pos rfl, if_pos (by omega), if_pos (by omega), if_pos (by omega)]
  · rw [if_neg h1]
    by_cases h2 : a ≤ i ∧ i < a + m
    · rw [if_pos h2, if_pos (by omega), if_pos (by omega), if_pos (by omega)]
    · rw [if_neg h2, if_neg (by omega)]
theorem cbo_set (l : List Bool) (i : Nat) (b : Bool) : (cbo l).set i (.bool b) = cbo (l.set i b) := by unfold cbo; rw [List.map_set]
theorem fitW_facts {N : Nat} {y : Wt} (h : fitW N y = true) : ∃ a m : Nat, y.1 = a ∧ m = y.2.length / 256 ∧ 1 ≤ m ∧ 2 ≤ a ∧ a + m ≤ N := by
  unfold fitW at h
  simp only [Bool.and_eq_true, decide_eq_true_eq] at h
  obtain ⟨h1, h2, h3, h4⟩ := h
  exact ⟨y.1.toNat, y.2.length / 256, by omega, rfl, by omega, by omega, by omega⟩

set_option maxRecDepth 100000 in
set_option maxHeartbeats 12800000 in
theorem PgRight_c (w : World) (g ph t x r p l : Int) (A : Option Addr) (n c : Nat) (RA : Option Addr) (rn rc : Nat) (ws : List Wt) (hG : Gens w) (h : Wts w (.slice RA rn rc) ws) (hI : ∀ y ∈ ws, y.1 ≤ 9223372036854775807) :
    Calls Tryz.prog 18 #[.slice RA rn rc, .agg #[.int .i64 g, .int .i64 ph, .int .i64 t, .int .i64 x, .int .i64 r, .int .i64 p, .int .i64 l, .slice A n c]] w (Told w (.bool (pgRight (okM g ph t x r p l n) p ws))) := by
  obtain ⟨w1, hw1⟩ : ∃ W0, W0 = w.alloc (.cells #[.int .i64 g, .int .i64 ph, .int .i64 t, .int .i64 x, .int .i64 r, .int .i64 p, .int .i64 l, .slice A n c] 45) := ⟨_, rfl⟩
  have HO1 : Hid (Only (w.heap.size ≤ ·) w w1) := Lib.hid (by rw [hw1]; exact (Only.refl _ w).alloc (fun _ h => h) _)
  have HA : Hid (Blk w1 w.heap.size 45 [.int .i64 g, .int .i64 ph, .int .i64 t, .int .i64 x, .int .i64 r, .int .i64 p, .int .i64 l, .slice A n c]) := Lib.hid (by rw [hw1]; exact Blk.new w 45 _)
  have HMR := Lib.hid (MRight_c w1 g ph t x r p l A n c (hG.later HO1.out))
  have HW := Lib.hid h
  have HI := Lib.hid hI
  have HCP := Lib.hid h.cap
  have HRN := Lib.hid h.len
  obtain ⟨i0, i1, i2, i3, i4, i5, i6, i7⟩ := HA.out.eight
  obtain ⟨ok, hok⟩ : ∃ z, z = okM g ph t x r p l n := ⟨_, rfl⟩
  rw [← hok] at HMR ⊢
  clear hG h hI
  cases ok with
  | false =>
    clear hok
    go_enter Tryz.func18, Tryz.ntmps18
    go_upto_region 1 with (fail)
    rw [← hw1]
    clear hw1
    go_wp2_with (go_at_call 49; (with_reducible refine HMR.out.mono ?_); rintro e w2 ⟨rfl, ho⟩; have HO := Lib.hid (on_new HO1.out ho); clear ho)
    go_ret
    exact ⟨rfl, HO.out⟩
  | true =>
    have hpp : 3 ≤ p ∧ p ≤ 16384 := by
      have h1 := of_decide_eq_true hok.symm
      unfold okP at h1
      omega
    obtain ⟨N, rfl⟩ : ∃ N : Nat, p = N := ⟨p.toNat, by omega⟩
    have hN3 : 3 ≤ N ∧ N ≤ 16384 := by omega
    clear hok hpp
    have hmk := run_makeB N (by omega)
    obtain ⟨RES, hres⟩ : ∃ z, z = rightL N (List.replicate N false) ws := ⟨_, rfl⟩
    have HRES : Hid (pgRight true (N : Int) ws = RES) := Lib.hid (by rw [hres]; rfl)
    go_enter Tryz.func18, Tryz.ntmps18
    go_upto_region 1 with (fail)
    rw [← hw1]
    clear hw1
    go_upto_region 3 with (go_at_call 49; (with_reducible refine HMR.out.mono ?_); rintro e w2 ⟨rfl, ho⟩; have HO2 := Lib.hid ho; clear ho)
    have HA2 := Lib.hid (HA.out.only HO2.out (Nat.not_le.2 HA.out.lt))
    clear i0 i1 i2 i3 i4 i5 i6 i7 HMR
    have i5 := HA2.out.cell 5
    simp only [List.getElem?_cons_succ, List.getElem?_cons_zero] at i5
    obtain ⟨w3, hw3⟩ : ∃ W0, W0 = w2.alloc (.cells (Array.replicate N zBo) 4) := ⟨_, rfl⟩
    have HO3 : Hid (Only (w2.heap.size ≤ ·) w2 w3) := Lib.hid (by rw [hw3]; exact (Only.refl _ w2).alloc (fun _ h => h) _)
    have HB : Hid (Blk w3 w2.heap.size 4 (cbo (List.replicate N false))) := Lib.hid (by
      have h1 := Blk.new w2 4 (List.replicate N zBo)
      rw [List.toArray_replicate] at h1
      rw [hw3, show cbo (List.replicate N false) = List.replicate N zBo by simp [cbo, zBo]]
      exact h1)
    have HA3 := Lib.hid (HA2.out.only HO3.out (Nat.not_le.2 HA2.out.lt))
    have HOW := Lib.hid (on_new (on_new HO1.out HO2.out) HO3.out)
    obtain ⟨bw, hbw⟩ : ∃ z, z = w2.heap.size := ⟨_, rfl⟩
    have HBW : Hid (w.heap.size < bw ∧ bw < w3.heap.size) := Lib.hid ⟨by rw [hbw]; exact HA2.out.lt, by rw [hbw]; exact HB.out.lt⟩
    go_wp2
    rw [← hw3, ← hbw]
    rw [← hbw] at HB
    clear hw3 hbw i5 hmk HO1 HO2 HO3 HA HA2
    go_loopg [18] rn (fun gk i wr => ∃ (k : Nat) (bits : List Bool), gk = rn - k ∧ k ≤ rn ∧ i = .int .i64 (k : Int) ∧ Hid (bits.length = N ∧ rightL N bits (ws.drop k) = RES) ∧ Hid (Blk wr bw 4 (cbo bits)) ∧ Hid (Only (fun b => b = bw ∨ w3.heap.size ≤ b) w3 wr))
    case atStart => exact ⟨0, _, rfl, Nat.zero_le _, rfl, Lib.hid ⟨by simp, hres.symm⟩, HB, Lib.hid (Only.refl _ _)⟩
    case round =>
      clear HB hres
      obtain ⟨k, bits, rfl, hk, rfl, HBI, HB, HO⟩ := hrel
      have HWW : Hid (Only (w.heap.size ≤ ·) w wr) := Lib.hid (HOW.out.trans (HO.out.mono fun b hb => by have := HBW.out; omega))
      by_cases hlt : k < rn
      · have hlt' : (k : Int) < (rn : Int) := by omega
        have hrn63 : (rn : Int) ≤ 9223372036854775807 := by have := HCP.out; omega
        obtain ⟨b, off, y, P, cp, rfl, hx, c0, c1, hsrc⟩ := wts_get (Rw.later HW.out HWW.out) hlt
        have hd := dropW_cons hx
        have HR0 : Hid (rightL N bits (y :: ws.drop (k + 1)) = RES) := Lib.hid (by rw [← hd]; exact HBI.out.2)
        have hyI := HI.out y (List.mem_of_getElem? hx)
        have hlen : y.2.length ≤ 9223372036854775807 := by obtain ⟨_, _, e, _, _, q1, q2⟩ := hsrc; simp only [Value.slice.injEq] at e; omega
        have HLY := Lib.hid hlen
        have HYI := Lib.hid hyI
        clear hx hd hsrc hyI hlen
        go_upto_region 7 with (fail)
        obtain ⟨w5, hw5⟩ : ∃ z9, z9 = wr.alloc (.cells #[.int .i64 y.1, .slice P y.2.length cp] 71) := ⟨_, rfl⟩
        obtain ⟨b7, hb7⟩ : ∃ z9, z9 = wr.heap.size := ⟨_, rfl⟩
        have Hb7 : Hid (Blk w5 b7 71 [.int .i64 y.1, .slice P y.2.length cp]) := Lib.hid (by rw [hw5, hb7]; exact Blk.new wr _ [.int .i64 y.1, .slice P y.2.length cp])
        have HXb7 : Hid (Only (wr.heap.size ≤ ·) wr w5) := Lib.hid (by rw [hw5]; exact (Only.refl _ wr).alloc (fun _ h => h) _)
        have HEQb7 : Hid (w5 = wr.alloc (.cells #[.int .i64 y.1, .slice P y.2.length cp] 71) ∧ b7 = wr.heap.size) := Lib.hid ⟨hw5, hb7⟩
        clear hw5 hb7
        rw [← HEQb7.out.1, ← HEQb7.out.2]
        have HWH := Lib.hid (Pgwhole_c w5 N y P cp (by omega) HYI.out HLY.out)
        have HA5 : Hid (Blk w5 w.heap.size 45 [.int .i64 g, .int .i64 ph, .int .i64 t, .int .i64 x, .int .i64 r, .int .i64 (N : Int), .int .i64 l, .slice A n c]) := Lib.hid ((HA3.out.only HO.out (fun hb => by have := HBW.out; have := HA3.out.lt; omega)).only HXb7.out (Nat.not_le.2 (Nat.lt_of_lt_of_le HA3.out.lt HO.out.size)))
        have i5 := HA5.out.cell 5
        simp only [List.getElem?_cons_succ, List.getElem?_cons_zero] at i5
        obtain ⟨d0, d1⟩ : w5.cell? ⟨b7, 0, none⟩ = some (.int .i64 y.1) ∧ w5.cell? ⟨b7, 1, none⟩ = some (.slice P y.2.length cp) := ⟨Hb7.out.cell 0, Hb7.out.cell 1⟩
        obtain ⟨fb, hfb⟩ : ∃ z, z = fitW N y := ⟨_, rfl⟩
        rw [← hfb] at HWH
        have HBE := Lib.hid HEQb7.out.2
        clear HEQb7 c0 c1
        cases fb with
        | false =>
          have HRR : Hid (RES = false) := Lib.hid (by rw [← HR0.out, rightL, if_neg (by rw [← hfb]; decide)])
          clear hfb
          go_wp2_with (go_at_call 50; (with_reducible refine HWH.out.mono ?_); rintro e w6 ⟨rfl, ho⟩; have HO6 := Lib.hid ho; clear ho)
          go_ret
          rw [HRES.out, HRR.out]
          exact ⟨rfl, on_new (on_new HWW.out HXb7.out) HO6.out⟩
        | true =>
          obtain ⟨a, m, hya, hm, hm1, ha2, ham⟩ := fitW_facts hfb.symm
          have hwn : IntKind.i64.wrap ((y.2.length : Int) / 256) = (m : Int) := by
            rw [IntWalk.i64_in _ (by have := HLY.out; omega), hm]
            rfl
          have a0 : (0 : Int) ≤ (a : Int) := by omega
          have a1 : (a : Int) ≤ (N : Int) := by omega
          have a3 : a ≤ N := by omega
          have m0 : (0 : Int) ≤ (m : Int) := by omega
          have m1 : m ≤ N - a := by omega
          have m2 : (m : Int) ≤ ((N - a : Nat) : Int) := by omega
          have haN : ¬ (N = a) := by omega
          have HYA := Lib.hid hya
          have HAM : Hid (a + m ≤ bits.length) := Lib.hid (by rw [HBI.out.1]; exact ham)
          obtain ⟨cb1, hcb⟩ : ∃ z, z = decide (true ∈ (bits.drop a).take m) := ⟨_, rfl⟩
          have HRI : Hid ((if true ∈ (bits.drop a).take m then false else rightL N (putB bits a m) (ws.drop (k + 1))) = RES) := Lib.hid (by
            rw [← HR0.out, rightL, if_pos hfb.symm, hya, ← hm]
            rfl)
          have HB5 := Lib.hid (HB.out.only HXb7.out (Nat.not_le.2 HB.out.lt))
          have HCN : Hid (∀ W, Only (w5.heap.size ≤ ·) w5 W → Calls Tryz.prog 51 #[.slice (some ⟨bw, a, none⟩) m (N - a), .bool true] W (Told W (.bool cb1))) := Lib.hid (fun W hW => by
            rw [hcb]
            have hb := HB5.out.only hW (Nat.not_le.2 HB5.out.lt)
            have hl : ((bits.drop a).take m).length = m := by simp only [List.length_take, List.length_drop]; have := HAM.out; omega
            refine PContB_c W _ ((bits.drop a).take m) ⟨bw, a, N - a, by rw [hl], fun i z hz => ?_⟩ (by rw [hl]; omega)
            rw [hb.cell]
            refine cbo_at ?_
            rw [List.getElem?_take, List.getElem?_drop] at hz
            split at hz
            · exact hz
            · cases hz)
          have HCB := Lib.hid hcb
          clear hfb hcb hya hm
          go_upto_region 9 with (go_at_call 50; (with_reducible refine HWH.out.mono ?_); rintro e w6 ⟨rfl, ho⟩; have HO6 := Lib.hid ho; clear ho)
          have HB6 := Lib.hid (HB5.out.only HO6.out (Nat.not_le.2 HB5.out.lt))
          have HDX : Hid (Only (w6.heap.size ≤ ·) w6 w6.drew) := Lib.hid ((Only.refl _ w6).drew)
          have HSX : Hid ((fun W : World => W.cell? ⟨b7, 0, none⟩ = some (.int .i64 (a : Int)) ∧ W.cell? ⟨b7, 1, none⟩ = some (.slice P y.2.length cp)) w6.drew) := Lib.hid (by
            have hq := Hb7.out.only HO6.out (Nat.not_le.2 Hb7.out.lt)
            refine ⟨?_, hq.cell 1⟩
            rw [← HYA.out]
            exact hq.cell 0)
          clear d0 d1 i5
          refine wp_region_list (B := [false, false, false, false, false, false, false, false, false, false]) (S := (fun W : World => W.cell? ⟨b7, 0, none⟩ = some (.int .i64 (a : Int)) ∧ W.cell? ⟨b7, 1, none⟩ = some (.slice P y.2.length cp))) (by kernel_rfl) (by kernel_rfl) (by kernel_rfl) HSX.out (fun hsel hHeld => ?_)
          generalize hwz : World.drew _ = wx at HDX HSX hHeld ⊢
          clear hwz
          refine oneA 0 27 hsel (h := ?_)
          simp only [Act.put, lsa, lsz, lss]
          refine oneA 1 28 hsel (h := ?_)
          simp only [Act.put, lsa, lsz, lss]
          refine oneA 2 29 hsel (h := ?_)
          simp only [Act.put, lsa, lsz, lss]
          refine oneA 3 30 hsel (h := ?_)
          simp only [Act.put, lsa, lsz, lss]
          refine oneA 4 31 hsel (h := ?_)
          simp only [Act.put, lsa, lsz, lss]
          refine oneA 5 32 hsel (h := ?_)
          simp only [Act.put, lsa, lsz, lss]
          refine oneA 6 33 hsel (h := ?_)
          simp only [Act.put, lsa, lsz, lss]
          refine oneA 7 34 hsel (h := ?_)
          simp only [Act.put, lsa, lsz, lss]
          refine oneA 8 35 hsel (h := ?_)
          simp only [Act.put, lsa, lsz, lss]
          refine oneA 9 8 hsel (h := ?_)
          simp only [Act.put, lsa, lsz, lss]
          refine wpAnyL_done (by kernel_rfl) (by kernel_rfl) ?_ _
          clear hsel hHeld
          cases cb1 with
          | true =>
            have HRR : Hid (RES = false) := Lib.hid (by rw [← HRI.out]; exact if_pos (of_decide_eq_true HCB.out.symm))
            go_wp2_with (go_at_call 51; (with_reducible refine (HCN.out _ (on_new HO6.out HDX.out)).mono ?_); rintro e w7 ⟨rfl, ho⟩; have HO7 := Lib.hid ho; clear ho)
            go_ret
            rw [HRES.out, HRR.out]
            exact ⟨rfl, on_new (on_new (on_new (on_new HWW.out HXb7.out) HO6.out) HDX.out) HO7.out⟩
          | false =>
            have HRR : Hid (rightL N (putB bits a m) (ws.drop (k + 1)) = RES) := Lib.hid (by rw [← HRI.out]; exact (if_neg (of_decide_eq_false HCB.out.symm)).symm)
            go_wp2_with (go_at_call 51; (with_reducible refine (HCN.out _ (on_new HO6.out HDX.out)).mono ?_); rintro e w7 ⟨rfl, ho⟩; have HO7 := Lib.hid ho; clear ho)
            have HN7 := Lib.hid (on_new (on_new HO6.out HDX.out) HO7.out)
            have HB7 : Hid (Blk w7 bw 4 (cbo (putB bits a 0))) := Lib.hid (by rw [show putB bits a 0 = bits from over_nil _ _]; exact HB5.out.only HN7.out (Nat.not_le.2 HB5.out.lt))
            have HO0 : Hid (Only (fun b => b = bw ∨ w3.heap.size ≤ b) w3 w7) := Lib.hid (HO.out.trans ((on_new HXb7.out HN7.out).mono fun _ hb => .inr (Nat.le_trans HO.out.size hb)))
            clear HB HO HB5 HB6 HO6 HO7 HN7 HCN HCB HRI HWH HWW HSX HDX
            go_loopg [40] m (fun gk i wr => ∃ j : Nat, gk = m - j ∧ j ≤ m ∧ i = .int .i64 (j : Int) ∧ Hid (Blk wr bw 4 (cbo (putB bits a j))) ∧ Hid (Only (fun b => b = bw ∨ w3.heap.size ≤ b) w3 wr))
            case atStart => exact ⟨0, rfl, Nat.zero_le _, rfl, HB7, HO0⟩
            case round =>
              clear HB7 HO0
              obtain ⟨j, rfl, hj, rfl, HB, HO⟩ := hrel
              by_cases hjm : j < m
              · have hjm1 : (j : Int) < (m : Int) := by omega
                have hj0 : (0 : Int) ≤ (j : Int) := by omega
                have hpl := putB_len (bits := bits) (a := a) (m := j) (by have := HAM.out; omega)
                obtain ⟨zz, hzz⟩ : ∃ z, (putB bits a j)[a + j]? = some z := ⟨_, List.getElem?_eq_getElem (by rw [hpl]; have := HAM.out; omega)⟩
                have hcell : wr.cell? ⟨bw, a + j, none⟩ = some (.bool zz) := (HB.out.cell (a + j)).trans (cbo_at hzz)
                have hfz := HB.out.frozen (a + j)
                have HBN : Hid (Blk (wr.setCell ⟨bw, a + j, none⟩ (.bool true)) bw 4 (cbo (putB bits a (j + 1)))) := Lib.hid (by
                  have h1 := HB.out.set_ (a + j) (.bool true)
                  rw [cbo_set, putB_succ (by have := HAM.out; omega)] at h1
                  exact h1)
                clear hzz hpl
                go_wp2
                go_roundg (m - (j + 1))
                case measure => omega
                case rel => exact ⟨j + 1, rfl, by omega, by go_num, HBN, Lib.hid (HO.out.setCell (p := ⟨bw, a + j, none⟩) (.inl rfl) _)⟩
              · obtain rfl : j = m := by omega
                have hjm1 : ¬ (j : Int) < (j : Int) := by omega
                go_wp2
                go_roundg (rn - (k + 1))
                case measure => omega
                case rel => exact ⟨k + 1, putB bits a j, rfl, by omega, by go_num, Lib.hid ⟨(putB_len HAM.out).trans HBI.out.1, HRR.out⟩, HB, HO⟩
      · obtain rfl : k = rn := by omega
        have hkm : ¬ (k : Int) < (k : Int) := by omega
        have HRR : Hid (RES = true) := Lib.hid (by rw [← HBI.out.2, show ws.drop k = [] from List.drop_eq_nil_of_le (by rw [← HRN.out]; exact Nat.le_refl _)]; rfl)
        go_wp2
        go_ret
        rw [HRES.out, HRR.out]
        exact ⟨rfl, HWW.out⟩
end Go.Proofs.YtbpldkhgiddmlaaGreatDoor
