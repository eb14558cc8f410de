/-
  The document's Right.
-/
import Derived.Test.YtbpldkhgiddmlaaGreatDoorPgx
set_option linter.unusedVariables false
namespace Go.Proofs.YtbpldkhgiddmlaaGreatDoor
open Go.RowKit

theorem putB_at {bits : List Bool} {a m i : Nat} (h : a + m ≤ bits.length) (hi : a + m ≤ i) : (putB bits a m)[i]? = bits[i]? := by
  unfold putB
  rw [over_get _ _ _ (by simpa using h), if_neg (by simp only [List.length_replicate]; omega)]
theorem mem_sub {bits : List Bool} {a m k : Nat} (hk : k < m) (h : bits[a + k]? = some true) : true ∈ (bits.drop a).take m := by
  refine List.mem_iff_getElem?.2 ⟨k, ?_⟩
  rw [List.getElem?_take, if_pos hk, List.getElem?_drop]
  exact h
theorem not_mem_sub {bits : List Bool} {a m : Nat} (h : ∀ j, j < m → bits[a + j]? ≠ some true) : ¬ true ∈ (bits.drop a).take m := fun hx => by
  obtain ⟨j, hj⟩ := List.mem_iff_getElem?.1 hx
  rw [List.getElem?_take] at hj
  split at hj
  · rw [List.getElem?_drop] at hj
    exact h j (by assumption) hj
  · cases hj

set_option maxRecDepth 100000 in
set_option maxHeartbeats 12800000 in
theorem rPgRight_c (w : World) (g ph t x r p l : Int) (A : Option Addr) (n c : Nat) (RA : Option Addr) (rn rc : Nat) (ws : List Wt) (h : Wts w (.slice RA rn rc) ws) (hI : ∀ y ∈ ws, I64v y.1) :
    Calls Tryz.prog 15 #[.slice RA rn rc, .agg #[.int .i64 g, .int .i64 ph, .int .i64 t, .int .i64 x, .int .i64 r, .int .i64 p, .int .i64 l, .slice A n c]] w (Told w (.bool (pgRight (okM g ph t x r p l n) p ws))) := by
  obtain ⟨w1, hw1⟩ : ∃ W0, W0 = w.alloc (.cells #[.int .i64 g, .int .i64 ph, .int .i64 t, .int .i64 x, .int .i64 r, .int .i64 p, .int .i64 l, .slice A n c] 25) := ⟨_, rfl⟩
  have HO1 : Hid (Only (w.heap.size ≤ ·) w w1) := Lib.hid (by rw [hw1]; exact (Only.refl _ w).alloc (fun _ h => h) _)
  have HA : Hid (Blk w1 w.heap.size 25 [.int .i64 g, .int .i64 ph, .int .i64 t, .int .i64 x, .int .i64 r, .int .i64 p, .int .i64 l, .slice A n c]) := Lib.hid (by rw [hw1]; exact Blk.new w 25 _)
  have HMR := Lib.hid (rmRight_c w1 g ph t x r p l A n c)
  have HW := Lib.hid h
  have HI := Lib.hid hI
  have HCP := Lib.hid h.cap
  have HRN := Lib.hid h.len
  obtain ⟨i0, i1, i2, i3, i4, i5, i6, i7⟩ := HA.out.eight
  obtain ⟨ok, hok⟩ : ∃ z, z = okM g ph t x r p l n := ⟨_, rfl⟩
  rw [← hok] at HMR ⊢
  clear h hI
  cases ok with
  | false =>
    clear hok
    go_enter Tryz.func15, Tryz.ntmps15
    go_upto_region 1 with (fail)
    rw [← hw1]
    clear hw1
    go_wp2_with (go_at_call 47; (with_reducible refine HMR.out.mono ?_); rintro e w2 ⟨rfl, ho⟩; have HO := Lib.hid (on_new HO1.out ho); clear ho)
    go_ret
    exact ⟨rfl, HO.out⟩
  | true =>
    have hpp : 3 ≤ p ∧ p ≤ 16384 := by
      have h1 := of_decide_eq_true hok.symm
      unfold okP at h1
      omega
    obtain ⟨N, rfl⟩ : ∃ N : Nat, p = N := ⟨p.toNat, by omega⟩
    have hN3 : 3 ≤ N ∧ N ≤ 16384 := by omega
    clear hok hpp
    have hmk := run_makeB N (by omega)
    obtain ⟨RES, hres⟩ : ∃ z, z = rightL N (List.replicate N false) ws := ⟨_, rfl⟩
    have HRES : Hid (pgRight true (N : Int) ws = RES) := Lib.hid (by rw [hres]; rfl)
    go_enter Tryz.func15, Tryz.ntmps15
    go_upto_region 1 with (fail)
    rw [← hw1]
    clear hw1
    go_upto_region 3 with (go_at_call 47; (with_reducible refine HMR.out.mono ?_); rintro e w2 ⟨rfl, ho⟩; have HO2 := Lib.hid ho; clear ho)
    have HA2 := Lib.hid (HA.out.only HO2.out (Nat.not_le.2 HA.out.lt))
    clear i0 i1 i2 i3 i4 i5 i6 i7 HMR
    have i5 := HA2.out.cell 5
    simp only [List.getElem?_cons_succ, List.getElem?_cons_zero] at i5
    obtain ⟨w3, hw3⟩ : ∃ W0, W0 = w2.alloc (.cells (Array.replicate N zBo) 4) := ⟨_, rfl⟩
    have HO3 : Hid (Only (w2.heap.size ≤ ·) w2 w3) := Lib.hid (by rw [hw3]; exact (Only.refl _ w2).alloc (fun _ h => h) _)
    have HB : Hid (Blk w3 w2.heap.size 4 (cbo (List.replicate N false))) := Lib.hid (by
      have h1 := Blk.new w2 4 (List.replicate N zBo)
      rw [List.toArray_replicate] at h1
      rw [hw3, show cbo (List.replicate N false) = List.replicate N zBo by simp [cbo, zBo]]
      exact h1)
    have HA3 := Lib.hid (HA2.out.only HO3.out (Nat.not_le.2 HA2.out.lt))
    have HOW := Lib.hid (on_new (on_new HO1.out HO2.out) HO3.out)
    obtain ⟨bw, hbw⟩ : ∃ z, z = w2.heap.size := ⟨_, rfl⟩
    have HBW : Hid (w.heap.size < bw ∧ bw < w3.heap.size) := Lib.hid ⟨by rw [hbw]; exact HA2.out.lt, by rw [hbw]; exact HB.out.lt⟩
    go_wp2
    rw [← hw3, ← hbw]
    rw [← hbw] at HB
    clear hw3 hbw i5 hmk HO1 HO2 HO3 HA HA2
    go_loopg [6] rn (fun gk i wr => ∃ (k : Nat) (bits : List Bool), gk = rn - k ∧ k ≤ rn ∧ i = .int .i64 (k : Int) ∧ Hid (bits.length = N ∧ rightL N bits (ws.drop k) = RES) ∧ Hid (Blk wr bw 4 (cbo bits)) ∧ Hid (Only (fun b => b = bw ∨ w3.heap.size ≤ b) w3 wr))
    case atStart => exact ⟨0, _, rfl, Nat.zero_le _, rfl, Lib.hid ⟨by simp, hres.symm⟩, HB, Lib.hid (Only.refl _ _)⟩
    case round =>
      clear HB hres
      obtain ⟨k, bits, rfl, hk, rfl, HBI, HB, HO⟩ := hrel
      have HWW : Hid (∀ W, Only (fun b => b = bw ∨ w3.heap.size ≤ b) w3 W → Only (w.heap.size ≤ ·) w W) := Lib.hid (fun W hW => HOW.out.trans (hW.mono fun b hb => by have := HBW.out; omega))
      by_cases hlt : k < rn
      · have hlt' : (k : Int) < (rn : Int) := by omega
        have hk0 : (0 : Int) ≤ (k : Int) := by omega
        have hrn63 : (rn : Int) ≤ 9223372036854775807 := by have := HCP.out; omega
        obtain ⟨b, off, y, P, cp, rfl, hx, c0, c1, hsrc⟩ := wts_get (Rw.later HW.out HOW.out) hlt
        have hblt := World.block_lt_of_cell? _ _ c0
        have hd := dropW_cons hx
        have HR0 : Hid (rightL N bits (y :: ws.drop (k + 1)) = RES) := Lib.hid (by rw [← hd]; exact HBI.out.2)
        have hyI := HI.out y (List.mem_of_getElem? hx)
        unfold I64v at hyI
        have hlen : y.2.length ≤ 9223372036854775807 := by obtain ⟨_, _, e, _, _, q1, q2⟩ := hsrc; simp only [Value.slice.injEq] at e; omega
        have HC : Hid (∀ W, Only (fun b => b = bw ∨ w3.heap.size ≤ b) w3 W → W.cell? ⟨b, off + k * 2, none⟩ = some (.int .i64 y.1) ∧ W.cell? ⟨b, off + k * 2 + 1, none⟩ = some (.slice P y.2.length cp) ∧ W.cell? ⟨w.heap.size, 5, none⟩ = some (.int .i64 (N : Int))) := Lib.hid (by
          obtain ⟨b', off', y', P', cp', e, hx', q0, q1, _⟩ := wts_get HW.out hlt
          cases e
          rw [hx] at hx'
          cases hx'
          have hbl := World.block_lt_of_cell? _ _ q0
          intro W hW
          have hcw := HWW.out W hW
          refine ⟨(hcw.cell (p := ⟨b, off + k * 2, none⟩) (Nat.not_le.2 hbl)).trans q0, ((hcw.cell (p := ⟨b, off + k * 2 + 1, none⟩) (Nat.not_le.2 hbl)).trans q1).trans ?_, ?_⟩
          · rw [← q1, ← c1]
            exact (HOW.out.cell (p := ⟨b, off + k * 2 + 1, none⟩) (Nat.not_le.2 hbl)).symm
          · exact (HA3.out.only hW (fun hb => by have := HBW.out; have := HA3.out.lt; omega)).cell 5)
        have hwn : IntKind.i64.wrap ((y.2.length : Int) / 256) = (y.2.length : Int) / 256 := IntWalk.i64_in _ (by omega)
        obtain ⟨d0, d1, d2⟩ := HC.out wr HO.out
        clear hx hd hsrc c0 c1 hblt
        have HFA : Hid (fitW N y = false → RES = false) := Lib.hid (fun hf => by rw [← HR0.out, rightL, if_neg (by rw [hf]; decide)])
        by_cases f1 : (y.2.length : Int) = 0
        · have HRR : Hid (RES = false) := Lib.hid (HFA.out (by unfold fitW; rw [decide_eq_false (by omega)]; rfl))
          have f1' : y.2.length = 0 := by omega
          go_wp2
          go_ret
          rw [HRES.out, HRR.out]
          exact ⟨rfl, HWW.out _ HO.out⟩
        · have f1' : ¬ y.2.length = 0 := by omega
          by_cases f2 : (y.2.length : Int) % 256 = 0
          · by_cases f3 : y.1 < 2
            · have HRR : Hid (RES = false) := Lib.hid (HFA.out (by unfold fitW; rw [decide_eq_false (p := 2 ≤ y.1) (by omega)]; simp))
              go_wp2
              go_ret
              rw [HRES.out, HRR.out]
              exact ⟨rfl, HWW.out _ HO.out⟩
            · obtain ⟨a, hya⟩ : ∃ a : Nat, y.1 = a := ⟨y.1.toNat, by omega⟩
              obtain ⟨m, hm⟩ : ∃ m : Nat, m = y.2.length / 256 := ⟨_, rfl⟩
              have hwn' : IntKind.i64.wrap ((y.2.length : Int) / 256) = (m : Int) := by rw [hwn, hm]; rfl
              have hm1 : 1 ≤ m := by omega
              have HFT : Hid (fitW N y = decide ((m : Int) ≤ (N : Int) - (a : Int))) := Lib.hid (by
                unfold fitW
                rw [decide_eq_true (p := 1 ≤ (y.2.length : Int) / 256) (by omega), decide_eq_true f2, decide_eq_true (p := 2 ≤ y.1) (by omega), hya, show (y.2.length : Int) / 256 = (m : Int) by rw [hm]; rfl]
                rfl)
              have HRT : Hid (fitW N y = true → (if true ∈ (bits.drop a).take m then false else rightL N (putB bits a m) (ws.drop (k + 1))) = RES) := Lib.hid (fun hf => by
                rw [← HR0.out, rightL, if_pos hf, hya, ← hm]
                rfl)
              have ha2 : 2 ≤ a := by omega
              have ha63 : (a : Int) ≤ 9223372036854775807 := by omega
              have hm63 : (m : Int) ≤ 36028797018963968 := by omega
              rw [hya] at HC d0 f3
              have HBL := Lib.hid HBI.out.1
              clear hya hyI hwn hm
              go_wp2
              have HB0 : Hid (Blk wr bw 4 (cbo (putB bits a 0))) := Lib.hid (by rw [show putB bits a 0 = bits from over_nil _ _]; exact HB.out)
              have HO0 := HO
              clear HB HO d0 d1 d2 hlen f1 f1' f2 f3
              go_loopg [7] m (fun gk i wr => ∃ j : Nat, gk = m - j ∧ j ≤ m ∧ i = .int .i64 (j : Int) ∧ Hid ((0 < j → a + j ≤ N) ∧ ∀ i, i < j → bits[a + i]? ≠ some true) ∧ Hid (Blk wr bw 4 (cbo (putB bits a j))) ∧ Hid (Only (fun b => b = bw ∨ w3.heap.size ≤ b) w3 wr))
              case atStart => exact ⟨0, rfl, Nat.zero_le _, rfl, Lib.hid ⟨fun h => absurd h (Nat.lt_irrefl _), fun i hi => absurd hi (Nat.not_lt_zero _)⟩, HB0, HO0⟩
              case round =>
                clear HB0 HO0
                obtain ⟨j, rfl, hj, rfl, HJ, HB, HO⟩ := hrel
                obtain ⟨d0, d1, d2⟩ := HC.out wr HO.out
                by_cases hjm : j < m
                · have hjm1 : (j : Int) < (m : Int) := by omega
                  have hj0 : (0 : Int) ≤ (j : Int) := by omega
                  have HOX : Hid (Only (fun b => b = bw ∨ w3.heap.size ≤ b) w3 wr.drew) := Lib.hid HO.out.drew
                  have HBX : Hid (Blk wr.drew bw 4 (cbo (putB bits a j))) := Lib.hid HB.out.drew
                  by_cases h1 : a < N
                  · have h1' : ¬ (N : Int) ≤ (a : Int) := by omega
                    have hwaj : IntKind.i64.wrap ((a : Int) + (j : Int)) = (a : Int) + (j : Int) := IntWalk.i64_in _ (by omega)
                    have htn : ((a : Int) + (j : Int)).toNat = a + j := by omega
                    by_cases h2 : a + j < N
                    · have h2' : ¬ (N : Int) ≤ (a : Int) + (j : Int) := by omega
                      have haj0 : (0 : Int) ≤ (a : Int) + (j : Int) := by omega
                      have haj1 : (a : Int) + (j : Int) < (N : Int) := by omega
                      have hpl := putB_len (bits := bits) (a := a) (m := j) (by rw [HBL.out]; omega)
                      obtain ⟨zz, hzz⟩ : ∃ z, (putB bits a j)[a + j]? = some z := ⟨_, List.getElem?_eq_getElem (by rw [hpl, HBL.out]; exact h2)⟩
                      have HZB : Hid (bits[a + j]? = some zz) := Lib.hid (by rw [← putB_at (bits := bits) (a := a) (m := j) (by rw [HBL.out]; omega) (by omega)]; exact hzz)
                      have HZZ := Lib.hid hzz
                      clear hzz hpl
                      cases zz with
                      | true =>
                        have HRR : Hid (RES = false) := Lib.hid (by
                          cases hf : fitW N y with
                          | false => exact HFA.out hf
                          | true => exact (HRT.out hf).symm.trans (if_pos (mem_sub hjm HZB.out)))
                        have HSX : Hid ((fun W : World => W.cell? ⟨b, off + k * 2, none⟩ = some (.int .i64 (a : Int)) ∧ W.cell? ⟨w.heap.size, 5, none⟩ = some (.int .i64 (N : Int)) ∧ W.cell? ⟨bw, a + j, none⟩ = some (.bool true)) wr.drew) := Lib.hid ⟨(HC.out _ HOX.out).1, (HC.out _ HOX.out).2.2, (HBX.out.cell (a + j)).trans (cbo_at HZZ.out)⟩
                        go_upto_region 12 with (fail)
                        clear d0 d1 d2
                        refine wp_region_list (B := [false, false, false, false, false, false, false, false, false, false, false, false, false, false, false, false, false, false, false, false, false, false, false, false, false, false, false, false, false, false, false, false]) (S := (fun W : World => W.cell? ⟨b, off + k * 2, none⟩ = some (.int .i64 (a : Int)) ∧ W.cell? ⟨w.heap.size, 5, none⟩ = some (.int .i64 (N : Int)) ∧ W.cell? ⟨bw, a + j, none⟩ = some (.bool true))) (by kernel_rfl) (by kernel_rfl) (by kernel_rfl) HSX.out (fun hsel hHeld => ?_)
                        generalize hwz : World.drew _ = wx at HOX HBX HSX hHeld ⊢
                        clear hwz
                        refine oneA 0 56 hsel (h := ?_)
                        simp only [Act.put, lsa, lsz, lss]
                        refine oneA 1 57 hsel (h := ?_)
                        simp only [Act.put, lsa, lsz, lss]
                        refine oneA 2 58 hsel (h := ?_)
                        simp only [Act.put, lsa, lsz, lss]
                        refine oneA 3 59 hsel (h := ?_)
                        simp only [Act.put, lsa, lsz, lss]
                        refine oneA 4 60 hsel (h := ?_)
                        simp only [Act.put, lsa, lsz, lss]
                        refine oneA 5 61 hsel (h := ?_)
                        simp only [Act.put, lsa, lsz, lss]
                        refine oneA 6 62 hsel (h := ?_)
                        simp only [Act.put, lsa, lsz, lss]
                        refine oneA 7 63 hsel (h := ?_)
                        simp only [Act.put, lsa, lsz, lss]
                        refine oneA 8 64 hsel (h := ?_)
                        simp only [Act.put, lsa, lsz, lss]
                        refine oneA 9 65 hsel (h := ?_)
                        simp only [Act.put, lsa, lsz, lss]
                        refine oneA 10 66 hsel (h := ?_)
                        simp only [Act.put, lsa, lsz, lss]
                        refine oneA 11 67 hsel (h := ?_)
                        simp only [Act.put, lsa, lsz, lss]
                        refine oneA 12 68 hsel (h := ?_)
                        simp only [Act.put, lsa, lsz, lss]
                        refine oneA 13 69 hsel (h := ?_)
                        simp only [Act.put, lsa, lsz, lss]
                        refine oneA 14 70 hsel (h := ?_)
                        simp only [Act.put, lsa, lsz, lss]
                        refine oneA 15 71 hsel (h := ?_)
                        simp only [Act.put, lsa, lsz, lss]
                        refine oneA 16 72 hsel (h := ?_)
                        simp only [Act.put, lsa, lsz, lss]
                        refine oneA 17 73 hsel (h := ?_)
                        simp only [Act.put, lsa, lsz, lss]
                        refine oneA 18 74 hsel (h := ?_)
                        simp only [Act.put, lsa, lsz, lss]
                        refine oneA 19 75 hsel (h := ?_)
                        simp only [Act.put, lsa, lsz, lss]
                        refine oneA 20 76 hsel (h := ?_)
                        simp only [Act.put, lsa, lsz, lss]
                        refine oneA 21 77 hsel (h := ?_)
                        simp only [Act.put, lsa, lsz, lss]
                        refine oneA 22 78 hsel (h := ?_)
                        simp only [Act.put, lsa, lsz, lss]
                        refine oneA 23 79 hsel (h := ?_)
                        simp only [Act.put, lsa, lsz, lss]
                        refine oneA 24 80 hsel (h := ?_)
                        simp only [Act.put, lsa, lsz, lss]
                        refine oneA 25 81 hsel (h := ?_)
                        simp only [Act.put, lsa, lsz, lss]
                        refine oneA 26 82 hsel (h := ?_)
                        simp only [Act.put, lsa, lsz, lss]
                        refine oneA 27 83 hsel (h := ?_)
                        simp only [Act.put, lsa, lsz, lss]
                        refine oneA 28 84 hsel (h := ?_)
                        simp only [Act.put, lsa, lsz, lss]
                        refine oneA 29 85 hsel (h := ?_)
                        simp only [Act.put, lsa, lsz, lss]
                        refine oneA 30 86 hsel (h := ?_)
                        simp only [Act.put, lsa, lsz, lss]
                        refine oneA 31 87 hsel (h := ?_)
                        simp only [Act.put, lsa, lsz, lss]
                        refine wpAnyL_done (by kernel_rfl) (by kernel_rfl) ?_ _
                        clear hsel hHeld
                        go_wp2
                        go_ret
                        rw [HRES.out, HRR.out]
                        exact ⟨rfl, HWW.out _ HOX.out⟩
                      | false =>
                        have HSX : Hid ((fun W : World => W.cell? ⟨b, off + k * 2, none⟩ = some (.int .i64 (a : Int)) ∧ W.cell? ⟨w.heap.size, 5, none⟩ = some (.int .i64 (N : Int)) ∧ W.cell? ⟨bw, a + j, none⟩ = some (.bool false)) wr.drew) := Lib.hid ⟨(HC.out _ HOX.out).1, (HC.out _ HOX.out).2.2, (HBX.out.cell (a + j)).trans (cbo_at HZZ.out)⟩
                        go_upto_region 12 with (fail)
                        clear d0 d1 d2
                        refine wp_region_list (B := [false, false, false, false, false, false, false, false, false, false, false, false, false, false, false, false, false, false, false, false, false, false, false, false, false, false, false, false, false, false, false, false]) (S := (fun W : World => W.cell? ⟨b, off + k * 2, none⟩ = some (.int .i64 (a : Int)) ∧ W.cell? ⟨w.heap.size, 5, none⟩ = some (.int .i64 (N : Int)) ∧ W.cell? ⟨bw, a + j, none⟩ = some (.bool false))) (by kernel_rfl) (by kernel_rfl) (by kernel_rfl) HSX.out (fun hsel hHeld => ?_)
                        generalize hwz : World.drew _ = wx at HOX HBX HSX hHeld ⊢
                        clear hwz
                        refine oneA 0 56 hsel (h := ?_)
                        simp only [Act.put, lsa, lsz, lss]
                        refine oneA 1 57 hsel (h := ?_)
                        simp only [Act.put, lsa, lsz, lss]
                        refine oneA 2 58 hsel (h := ?_)
                        simp only [Act.put, lsa, lsz, lss]
                        refine oneA 3 59 hsel (h := ?_)
                        simp only [Act.put, lsa, lsz, lss]
                        refine oneA 4 60 hsel (h := ?_)
                        simp only [Act.put, lsa, lsz, lss]
                        refine oneA 5 61 hsel (h := ?_)
                        simp only [Act.put, lsa, lsz, lss]
                        refine oneA 6 62 hsel (h := ?_)
                        simp only [Act.put, lsa, lsz, lss]
                        refine oneA 7 63 hsel (h := ?_)
                        simp only [Act.put, lsa, lsz, lss]
                        refine oneA 8 64 hsel (h := ?_)
                        simp only [Act.put, lsa, lsz, lss]
                        refine oneA 9 65 hsel (h := ?_)
                        simp only [Act.put, lsa, lsz, lss]
                        refine oneA 10 66 hsel (h := ?_)
                        simp only [Act.put, lsa, lsz, lss]
                        refine oneA 11 67 hsel (h := ?_)
                        simp only [Act.put, lsa, lsz, lss]
                        refine oneA 12 68 hsel (h := ?_)
                        simp only [Act.put, lsa, lsz, lss]
                        refine oneA 13 69 hsel (h := ?_)
                        simp only [Act.put, lsa, lsz, lss]
                        refine oneA 14 70 hsel (h := ?_)
                        simp only [Act.put, lsa, lsz, lss]
                        refine oneA 15 71 hsel (h := ?_)
                        simp only [Act.put, lsa, lsz, lss]
                        refine oneA 16 72 hsel (h := ?_)
                        simp only [Act.put, lsa, lsz, lss]
                        refine oneA 17 73 hsel (h := ?_)
                        simp only [Act.put, lsa, lsz, lss]
                        refine oneA 18 74 hsel (h := ?_)
                        simp only [Act.put, lsa, lsz, lss]
                        refine oneA 19 75 hsel (h := ?_)
                        simp only [Act.put, lsa, lsz, lss]
                        refine oneA 20 76 hsel (h := ?_)
                        simp only [Act.put, lsa, lsz, lss]
                        refine oneA 21 77 hsel (h := ?_)
                        simp only [Act.put, lsa, lsz, lss]
                        refine oneA 22 78 hsel (h := ?_)
                        simp only [Act.put, lsa, lsz, lss]
                        refine oneA 23 79 hsel (h := ?_)
                        simp only [Act.put, lsa, lsz, lss]
                        refine oneA 24 80 hsel (h := ?_)
                        simp only [Act.put, lsa, lsz, lss]
                        refine oneA 25 81 hsel (h := ?_)
                        simp only [Act.put, lsa, lsz, lss]
                        refine oneA 26 82 hsel (h := ?_)
                        simp only [Act.put, lsa, lsz, lss]
                        refine oneA 27 83 hsel (h := ?_)
                        simp only [Act.put, lsa, lsz, lss]
                        refine oneA 28 84 hsel (h := ?_)
                        simp only [Act.put, lsa, lsz, lss]
                        refine oneA 29 85 hsel (h := ?_)
                        simp only [Act.put, lsa, lsz, lss]
                        refine oneA 30 86 hsel (h := ?_)
                        simp only [Act.put, lsa, lsz, lss]
                        refine oneA 31 87 hsel (h := ?_)
                        simp only [Act.put, lsa, lsz, lss]
                        refine wpAnyL_done (by kernel_rfl) (by kernel_rfl) ?_ _
                        clear hsel hHeld
                        obtain ⟨d0, d1, d2⟩ := HC.out wx HOX.out
                        have hcell := HSX.out.2.2
                        have hfz := HBX.out.frozen (a + j)
                        have HBN : Hid (Blk (wx.setCell ⟨bw, a + j, none⟩ (.bool true)) bw 4 (cbo (putB bits a (j + 1)))) := Lib.hid (by
                          have h1 := HBX.out.set_ (a + j) (.bool true)
                          rw [cbo_set, putB_succ (by rw [HBL.out]; omega)] at h1
                          exact h1)
                        have HJN : Hid ((0 < j + 1 → a + (j + 1) ≤ N) ∧ ∀ i, i < j + 1 → bits[a + i]? ≠ some true) := Lib.hid ⟨fun _ => by omega, fun i hi => by
                          rcases Nat.lt_or_ge i j with h | h
                          · exact HJ.out.2 i h
                          · obtain rfl : i = j := by omega
                            rw [HZB.out]
                            exact fun e => by cases e⟩
                        go_wp2
                        go_roundg (m - (j + 1))
                        case measure => omega
                        case rel => exact ⟨j + 1, rfl, by omega, by go_num, HJN, HBN, Lib.hid (HOX.out.setCell (p := ⟨bw, a + j, none⟩) (.inl rfl) _)⟩
                    · have h2' : (N : Int) ≤ (a : Int) + (j : Int) := by omega
                      have HRR : Hid (RES = false) := Lib.hid (HFA.out (by rw [HFT.out]; exact decide_eq_false (by omega)))
                      have HSX : Hid ((fun W : World => W.cell? ⟨b, off + k * 2, none⟩ = some (.int .i64 (a : Int)) ∧ W.cell? ⟨w.heap.size, 5, none⟩ = some (.int .i64 (N : Int))) wr.drew) := Lib.hid ⟨(HC.out _ HOX.out).1, (HC.out _ HOX.out).2.2⟩
                      go_upto_region 12 with (fail)
                      clear d0 d1 d2
                      refine wp_region_list (B := [false, false, false, false, false, false, false, false, false, false, false, false, false, false, false, false, false, false, false, false, false, false, false, false, false, false, false, false, false, false, false, false]) (S := (fun W : World => W.cell? ⟨b, off + k * 2, none⟩ = some (.int .i64 (a : Int)) ∧ W.cell? ⟨w.heap.size, 5, none⟩ = some (.int .i64 (N : Int)))) (by kernel_rfl) (by kernel_rfl) (by kernel_rfl) HSX.out (fun hsel hHeld => ?_)
                      generalize hwz : World.drew _ = wx at HOX HBX HSX hHeld ⊢
                      clear hwz
                      refine oneA 0 56 hsel (h := ?_)
                      simp only [Act.put, lsa, lsz, lss]
                      refine oneA 1 57 hsel (h := ?_)
                      simp only [Act.put, lsa, lsz, lss]
                      refine oneA 2 58 hsel (h := ?_)
                      simp only [Act.put, lsa, lsz, lss]
                      refine oneA 3 59 hsel (h := ?_)
                      simp only [Act.put, lsa, lsz, lss]
                      refine oneA 4 60 hsel (h := ?_)
                      simp only [Act.put, lsa, lsz, lss]
                      refine oneA 5 61 hsel (h := ?_)
                      simp only [Act.put, lsa, lsz, lss]
                      refine oneA 6 62 hsel (h := ?_)
                      simp only [Act.put, lsa, lsz, lss]
                      refine oneA 7 63 hsel (h := ?_)
                      simp only [Act.put, lsa, lsz, lss]
                      refine oneA 8 64 hsel (h := ?_)
                      simp only [Act.put, lsa, lsz, lss]
                      refine oneA 9 65 hsel (h := ?_)
                      simp only [Act.put, lsa, lsz, lss]
                      refine oneA 10 66 hsel (h := ?_)
                      simp only [Act.put, lsa, lsz, lss]
                      refine oneA 11 67 hsel (h := ?_)
                      simp only [Act.put, lsa, lsz, lss]
                      refine oneA 12 68 hsel (h := ?_)
                      simp only [Act.put, lsa, lsz, lss]
                      refine oneA 13 69 hsel (h := ?_)
                      simp only [Act.put, lsa, lsz, lss]
                      refine oneA 14 70 hsel (h := ?_)
                      simp only [Act.put, lsa, lsz, lss]
                      refine oneA 15 71 hsel (h := ?_)
                      simp only [Act.put, lsa, lsz, lss]
                      refine oneA 16 72 hsel (h := ?_)
                      simp only [Act.put, lsa, lsz, lss]
                      refine oneA 17 73 hsel (h := ?_)
                      simp only [Act.put, lsa, lsz, lss]
                      refine oneA 18 74 hsel (h := ?_)
                      simp only [Act.put, lsa, lsz, lss]
                      refine oneA 19 75 hsel (h := ?_)
                      simp only [Act.put, lsa, lsz, lss]
                      refine oneA 20 76 hsel (h := ?_)
                      simp only [Act.put, lsa, lsz, lss]
                      refine take_skipL (i := 21) (d := 77) (oi := ?_) ?_ hsel (by kernel_rfl) (by kernel_rfl) (fun _ _ _ h => h) ?_ ?_ (by assumption) ?_
                      case refine_2 => (simp only [List.getElem?_cons_succ, List.getElem?_cons_zero]; rfl)
                      case refine_3 => rfl
                      case refine_4 => rfl
                      simp only [Act.put, lsa, lsz, lss]
                      refine take_skipL (i := 22) (d := 78) (oi := ?_) ?_ hsel (by kernel_rfl) (by kernel_rfl) (fun _ _ _ h => h) ?_ ?_ (by assumption) ?_
                      case refine_2 => (simp only [List.getElem?_cons_succ, List.getElem?_cons_zero]; rfl)
                      case refine_3 => rfl
                      case refine_4 => rfl
                      simp only [Act.put, lsa, lsz, lss]
                      refine take_skipL (i := 23) (d := 79) (oi := ?_) ?_ hsel (by kernel_rfl) (by kernel_rfl) (fun _ _ _ h => h) ?_ ?_ (by assumption) ?_
                      case refine_2 => (simp only [List.getElem?_cons_succ, List.getElem?_cons_zero]; rfl)
                      case refine_3 => rfl
                      case refine_4 => rfl
                      simp only [Act.put, lsa, lsz, lss]
                      refine take_skipL (i := 24) (d := 80) (oi := ?_) ?_ hsel (by kernel_rfl) (by kernel_rfl) (fun _ _ _ h => h) ?_ ?_ (by assumption) ?_
                      case refine_2 => (simp only [List.getElem?_cons_succ, List.getElem?_cons_zero]; rfl)
                      case refine_3 => rfl
                      case refine_4 => rfl
                      simp only [Act.put, lsa, lsz, lss]
                      refine take_skipL (i := 25) (d := 81) (oi := ?_) ?_ hsel (by kernel_rfl) (by kernel_rfl) (fun _ _ _ h => h) ?_ ?_ (by assumption) ?_
                      case refine_2 => (simp only [List.getElem?_cons_succ, List.getElem?_cons_zero]; rfl)
                      case refine_3 => rfl
                      case refine_4 => rfl
                      simp only [Act.put, lsa, lsz, lss]
                      refine take_skipL (i := 26) (d := 82) (oi := ?_) ?_ hsel (by kernel_rfl) (by kernel_rfl) (fun _ _ _ h => h) ?_ ?_ (by assumption) ?_
                      case refine_2 => (simp only [List.getElem?_cons_succ, List.getElem?_cons_zero]; rfl)
                      case refine_3 => rfl
                      case refine_4 => rfl
                      simp only [Act.put, lsa, lsz, lss]
                      refine take_skipL (i := 27) (d := 83) (oi := ?_) ?_ hsel (by kernel_rfl) (by kernel_rfl) (fun _ _ _ h => h) ?_ ?_ (by assumption) ?_
                      case refine_2 => (simp only [List.getElem?_cons_succ, List.getElem?_cons_zero]; rfl)
                      case refine_3 => rfl
                      case refine_4 => rfl
                      simp only [Act.put, lsa, lsz, lss]
                      refine take_skipL (i := 28) (d := 84) (oi := ?_) ?_ hsel (by kernel_rfl) (by kernel_rfl) (fun _ _ _ h => h) ?_ ?_ (by assumption) ?_
                      case refine_2 => (simp only [List.getElem?_cons_succ, List.getElem?_cons_zero]; rfl)
                      case refine_3 => rfl
                      case refine_4 => rfl
                      simp only [Act.put, lsa, lsz, lss]
                      refine take_skipL (i := 29) (d := 85) (oi := ?_) ?_ hsel (by kernel_rfl) (by kernel_rfl) (fun _ _ _ h => h) ?_ ?_ (by assumption) ?_
                      case refine_2 => (simp only [List.getElem?_cons_succ, List.getElem?_cons_zero]; rfl)
                      case refine_3 => rfl
                      case refine_4 => rfl
                      simp only [Act.put, lsa, lsz, lss]
                      refine take_skipL (i := 30) (d := 86) (oi := ?_) ?_ hsel (by kernel_rfl) (by kernel_rfl) (fun _ _ _ h => h) ?_ ?_ (by assumption) ?_
                      case refine_2 => (simp only [List.getElem?_cons_succ, List.getElem?_cons_zero]; rfl)
                      case refine_3 => rfl
                      case refine_4 => rfl
                      simp only [Act.put, lsa, lsz, lss]
                      refine oneA 31 87 hsel (h := ?_)
                      simp only [Act.put, lsa, lsz, lss]
                      refine wpAnyL_done (by kernel_rfl) (by kernel_rfl) ?_ _
                      clear hsel hHeld
                      go_wp2
                      go_ret
                      rw [HRES.out, HRR.out]
                      exact ⟨rfl, HWW.out _ HOX.out⟩
                  · have h1' : (N : Int) ≤ (a : Int) := by omega
                    have HRR : Hid (RES = false) := Lib.hid (HFA.out (by rw [HFT.out]; exact decide_eq_false (by omega)))
                    have HSX : Hid ((fun W : World => W.cell? ⟨b, off + k * 2, none⟩ = some (.int .i64 (a : Int)) ∧ W.cell? ⟨w.heap.size, 5, none⟩ = some (.int .i64 (N : Int))) wr.drew) := Lib.hid ⟨(HC.out _ HOX.out).1, (HC.out _ HOX.out).2.2⟩
                    go_upto_region 12 with (fail)
                    clear d0 d1 d2
                    refine wp_region_list (B := [false, false, false, false, false, false, false, false, false, false, false, false, false, false, false, false, false, false, false, false, false, false, false, false, false, false, false, false, false, false, false, false]) (S := (fun W : World => W.cell? ⟨b, off + k * 2, none⟩ = some (.int .i64 (a : Int)) ∧ W.cell? ⟨w.heap.size, 5, none⟩ = some (.int .i64 (N : Int)))) (by kernel_rfl) (by kernel_rfl) (by kernel_rfl) HSX.out (fun hsel hHeld => ?_)
                    generalize hwz : World.drew _ = wx at HOX HBX HSX hHeld ⊢
                    clear hwz
                    refine oneA 0 56 hsel (h := ?_)
                    simp only [Act.put, lsa, lsz, lss]
                    refine oneA 1 57 hsel (h := ?_)
                    simp only [Act.put, lsa, lsz, lss]
                    refine oneA 2 58 hsel (h := ?_)
                    simp only [Act.put, lsa, lsz, lss]
                    refine oneA 3 59 hsel (h := ?_)
                    simp only [Act.put, lsa, lsz, lss]
                    refine oneA 4 60 hsel (h := ?_)
                    simp only [Act.put, lsa, lsz, lss]
                    refine oneA 5 61 hsel (h := ?_)
                    simp only [Act.put, lsa, lsz, lss]
                    refine oneA 6 62 hsel (h := ?_)
                    simp only [Act.put, lsa, lsz, lss]
                    refine oneA 7 63 hsel (h := ?_)
                    simp only [Act.put, lsa, lsz, lss]
                    refine oneA 8 64 hsel (h := ?_)
                    simp only [Act.put, lsa, lsz, lss]
                    refine take_skipL (i := 9) (d := 65) (oi := ?_) ?_ hsel (by kernel_rfl) (by kernel_rfl) (fun _ _ _ h => h) ?_ ?_ (by assumption) ?_
                    case refine_2 => (simp only [List.getElem?_cons_succ, List.getElem?_cons_zero]; rfl)
                    case refine_3 => rfl
                    case refine_4 => rfl
                    simp only [Act.put, lsa, lsz, lss]
                    refine take_skipL (i := 10) (d := 66) (oi := ?_) ?_ hsel (by kernel_rfl) (by kernel_rfl) (fun _ _ _ h => h) ?_ ?_ (by assumption) ?_
                    case refine_2 => (simp only [List.getElem?_cons_succ, List.getElem?_cons_zero]; rfl)
                    case refine_3 => rfl
                    case refine_4 => rfl
                    simp only [Act.put, lsa, lsz, lss]
                    refine take_skipL (i := 11) (d := 67) (oi := ?_) ?_ hsel (by kernel_rfl) (by kernel_rfl) (fun _ _ _ h => h) ?_ ?_ (by assumption) ?_
                    case refine_2 => (simp only [List.getElem?_cons_succ, List.getElem?_cons_zero]; rfl)
                    case refine_3 => rfl
                    case refine_4 => rfl
                    simp only [Act.put, lsa, lsz, lss]
                    refine take_skipL (i := 12) (d := 68) (oi := ?_) ?_ hsel (by kernel_rfl) (by kernel_rfl) (fun _ _ _ h => h) ?_ ?_ (by assumption) ?_
                    case refine_2 => (simp only [List.getElem?_cons_succ, List.getElem?_cons_zero]; rfl)
                    case refine_3 => rfl
                    case refine_4 => rfl
                    simp only [Act.put, lsa, lsz, lss]
                    refine take_skipL (i := 13) (d := 69) (oi := ?_) ?_ hsel (by kernel_rfl) (by kernel_rfl) (fun _ _ _ h => h) ?_ ?_ (by assumption) ?_
                    case refine_2 => (simp only [List.getElem?_cons_succ, List.getElem?_cons_zero]; rfl)
                    case refine_3 => rfl
                    case refine_4 => rfl
                    simp only [Act.put, lsa, lsz, lss]
                    refine take_skipL (i := 14) (d := 70) (oi := ?_) ?_ hsel (by kernel_rfl) (by kernel_rfl) (fun _ _ _ h => h) ?_ ?_ (by assumption) ?_
                    case refine_2 => (simp only [List.getElem?_cons_succ, List.getElem?_cons_zero]; rfl)
                    case refine_3 => rfl
                    case refine_4 => rfl
                    simp only [Act.put, lsa, lsz, lss]
                    refine take_skipL (i := 15) (d := 71) (oi := ?_) ?_ hsel (by kernel_rfl) (by kernel_rfl) (fun _ _ _ h => h) ?_ ?_ (by assumption) ?_
                    case refine_2 => (simp only [List.getElem?_cons_succ, List.getElem?_cons_zero]; rfl)
                    case refine_3 => rfl
                    case refine_4 => rfl
                    simp only [Act.put, lsa, lsz, lss]
                    refine take_skipL (i := 16) (d := 72) (oi := ?_) ?_ hsel (by kernel_rfl) (by kernel_rfl) (fun _ _ _ h => h) ?_ ?_ (by assumption) ?_
                    case refine_2 => (simp only [List.getElem?_cons_succ, List.getElem?_cons_zero]; rfl)
                    case refine_3 => rfl
                    case refine_4 => rfl
                    simp only [Act.put, lsa, lsz, lss]
                    refine take_skipL (i := 17) (d := 73) (oi := ?_) ?_ hsel (by kernel_rfl) (by kernel_rfl) (fun _ _ _ h => h) ?_ ?_ (by assumption) ?_
                    case refine_2 => (simp only [List.getElem?_cons_succ, List.getElem?_cons_zero]; rfl)
                    case refine_3 => rfl
                    case refine_4 => rfl
                    simp only [Act.put, lsa, lsz, lss]
                    refine take_skipL (i := 18) (d := 74) (oi := ?_) ?_ hsel (by kernel_rfl) (by kernel_rfl) (fun _ _ _ h => h) ?_ ?_ (by assumption) ?_
                    case refine_2 => (simp only [List.getElem?_cons_succ, List.getElem?_cons_zero]; rfl)
                    case refine_3 => rfl
                    case refine_4 => rfl
                    simp only [Act.put, lsa, lsz, lss]
                    refine oneA 19 75 hsel (h := ?_)
                    simp only [Act.put, lsa, lsz, lss]
                    refine oneA 20 76 hsel (h := ?_)
                    simp only [Act.put, lsa, lsz, lss]
                    refine take_skipL (i := 21) (d := 77) (oi := ?_) ?_ hsel (by kernel_rfl) (by kernel_rfl) (fun _ _ _ h => h) ?_ ?_ (by assumption) ?_
                    case refine_2 => (simp only [List.getElem?_cons_succ, List.getElem?_cons_zero]; rfl)
                    case refine_3 => rfl
                    case refine_4 => rfl
                    simp only [Act.put, lsa, lsz, lss]
                    refine take_skipL (i := 22) (d := 78) (oi := ?_) ?_ hsel (by kernel_rfl) (by kernel_rfl) (fun _ _ _ h => h) ?_ ?_ (by assumption) ?_
                    case refine_2 => (simp only [List.getElem?_cons_succ, List.getElem?_cons_zero]; rfl)
                    case refine_3 => rfl
                    case refine_4 => rfl
                    simp only [Act.put, lsa, lsz, lss]
                    refine take_skipL (i := 23) (d := 79) (oi := ?_) ?_ hsel (by kernel_rfl) (by kernel_rfl) (fun _ _ _ h => h) ?_ ?_ (by assumption) ?_
                    case refine_2 => (simp only [List.getElem?_cons_succ, List.getElem?_cons_zero]; rfl)
                    case refine_3 => rfl
                    case refine_4 => rfl
                    simp only [Act.put, lsa, lsz, lss]
                    refine take_skipL (i := 24) (d := 80) (oi := ?_) ?_ hsel (by kernel_rfl) (by kernel_rfl) (fun _ _ _ h => h) ?_ ?_ (by assumption) ?_
                    case refine_2 => (simp only [List.getElem?_cons_succ, List.getElem?_cons_zero]; rfl)
                    case refine_3 => rfl
                    case refine_4 => rfl
                    simp only [Act.put, lsa, lsz, lss]
                    refine take_skipL (i := 25) (d := 81) (oi := ?_) ?_ hsel (by kernel_rfl) (by kernel_rfl) (fun _ _ _ h => h) ?_ ?_ (by assumption) ?_
                    case refine_2 => (simp only [List.getElem?_cons_succ, List.getElem?_cons_zero]; rfl)
                    case refine_3 => rfl
                    case refine_4 => rfl
                    simp only [Act.put, lsa, lsz, lss]
                    refine take_skipL (i := 26) (d := 82) (oi := ?_) ?_ hsel (by kernel_rfl) (by kernel_rfl) (fun _ _ _ h => h) ?_ ?_ (by assumption) ?_
                    case refine_2 => (simp only [List.getElem?_cons_succ, List.getElem?_cons_zero]; rfl)
                    case refine_3 => rfl
                    case refine_4 => rfl
                    simp only [Act.put, lsa, lsz, lss]
                    refine take_skipL (i := 27) (d := 83) (oi := ?_) ?_ hsel (by kernel_rfl) (by kernel_rfl) (fun _ _ _ h => h) ?_ ?_ (by assumption) ?_
                    case refine_2 => (simp only [List.getElem?_cons_succ, List.getElem?_cons_zero]; rfl)
                    case refine_3 => rfl
                    case refine_4 => rfl
                    simp only [Act.put, lsa, lsz, lss]
                    refine take_skipL (i := 28) (d := 84) (oi := ?_) ?_ hsel (by kernel_rfl) (by kernel_rfl) (fun _ _ _ h => h) ?_ ?_ (by assumption) ?_
                    case refine_2 => (simp only [List.getElem?_cons_succ, List.getElem?_cons_zero]; rfl)
                    case refine_3 => rfl
                    case refine_4 => rfl
                    simp only [Act.put, lsa, lsz, lss]
                    refine take_skipL (i := 29) (d := 85) (oi := ?_) ?_ hsel (by kernel_rfl) (by kernel_rfl) (fun _ _ _ h => h) ?_ ?_ (by assumption) ?_
                    case refine_2 => (simp only [List.getElem?_cons_succ, List.getElem?_cons_zero]; rfl)
                    case refine_3 => rfl
                    case refine_4 => rfl
                    simp only [Act.put, lsa, lsz, lss]
                    refine take_skipL (i := 30) (d := 86) (oi := ?_) ?_ hsel (by kernel_rfl) (by kernel_rfl) (fun _ _ _ h => h) ?_ ?_ (by assumption) ?_
                    case refine_2 => (simp only [List.getElem?_cons_succ, List.getElem?_cons_zero]; rfl)
                    case refine_3 => rfl
                    case refine_4 => rfl
                    simp only [Act.put, lsa, lsz, lss]
                    refine oneA 31 87 hsel (h := ?_)
                    simp only [Act.put, lsa, lsz, lss]
                    refine wpAnyL_done (by kernel_rfl) (by kernel_rfl) ?_ _
                    clear hsel hHeld
                    go_wp2
                    go_ret
                    rw [HRES.out, HRR.out]
                    exact ⟨rfl, HWW.out _ HOX.out⟩
                · obtain rfl : j = m := by omega
                  have hjm1 : ¬ (j : Int) < (j : Int) := by omega
                  have ham : a + j ≤ N := HJ.out.1 (by omega)
                  have HRR : Hid (rightL N (putB bits a j) (ws.drop (k + 1)) = RES) := Lib.hid (by
                    rw [← HRT.out (by rw [HFT.out]; exact decide_eq_true (by omega))]
                    exact (if_neg (not_mem_sub HJ.out.2)).symm)
                  go_wp2
                  go_roundg (rn - (k + 1))
                  case measure => omega
                  case rel => exact ⟨k + 1, putB bits a j, rfl, by omega, by go_num, Lib.hid ⟨(putB_len (by rw [HBL.out]; exact ham)).trans HBL.out, HRR.out⟩, HB, HO⟩
          · have HRR : Hid (RES = false) := Lib.hid (HFA.out (by unfold fitW; rw [decide_eq_false (p := (y.2.length : Int) % 256 = 0) f2]; simp))
            go_wp2
            go_ret
            rw [HRES.out, HRR.out]
            exact ⟨rfl, HWW.out _ HO.out⟩
      · obtain rfl : k = rn := by omega
        have hkm : ¬ (k : Int) < (k : Int) := by omega
        have HRR : Hid (RES = true) := Lib.hid (by rw [← HBI.out.2, show ws.drop k = [] from List.drop_eq_nil_of_le (by rw [← HRN.out]; exact Nat.le_refl _)]; rfl)
        go_wp2
        go_ret
        rw [HRES.out, HRR.out]
        exact ⟨rfl, HWW.out _ HO.out⟩
end Go.Proofs.YtbpldkhgiddmlaaGreatDoor
