/-
  The document's reading of a page's body: a branch's.
-/
import Derived.Test.YtoghojgajpfkkaaGreatDoorRfm
set_option linter.unusedVariables false
namespace Go.Proofs.YtoghojgajpfkkaaGreatDoor
open Go.RowKit

/-- The cells of a kid whose key is a part of the bytes. -/
def kdP (v : Value) (b : Bytes) (x : It) (cs : List Value) : Prop := ∃ P pc, cs = [.slice P x.1.length pc, .int .i64 x.2.2.2] ∧ (∀ W, Src W v b → Src W (.slice P x.1.length pc) x.1)
/-- Under way: the kids so far stand behind the node's variable. -/
def RedQ (v : Value) (b : Bytes) (nb : Nat) (w1 : World) (R : Option Addr) (n t : Nat) (l : List It) (wr : World) : Prop :=
  ∃ C, n = l.length ∧ Blk wr nb 35 [.bool false, .slice none 0 0, .slice R n t] ∧ wr.ownsRow w1.heap.size 65 2 (.slice R n t) n C ∧ Den (kdP v b) l C ∧ Only (fun j => j = nb ∨ w1.heap.size ≤ j) w1 wr
theorem kds_den {v : Value} {b : Bytes} {W : World} (hs : Src W v b) : ∀ {l : List It} {C : List Value}, Den (kdP v b) l C → Den (kdE.At W) (l.map asKid) C
  | [], _, h => h
  | x :: l, _, h => by
    obtain ⟨cs, D, e, ⟨P, p, e2, k1⟩, hd⟩ := h
    exact ⟨cs, D, e, ⟨P, p, e2, k1 _ hs⟩, kds_den hs hd⟩
theorem RedQ.nodC {v : Value} {b : Bytes} {B : Nat} {W : World} {R : Option Addr} {n t : Nat} {l : List It} (h : ∃ C, n = l.length ∧ Den (kdP v b) l C ∧ W.ownsRow B 65 2 (.slice R n t) n C) (hs : Src W v b) : Nod W ⟨false, [], l.map asKid⟩ false (.slice none 0 0) (.slice R n t) := by
  obtain ⟨C, hn, hd, hr⟩ := h
  have hw := Own.rw_ (E := kdE) (t := 65) (B := B) (w := W) (v := .slice R n t) (l := l.map asKid) (n := n) ⟨by rw [List.length_map]; exact hn, C, kds_den hs hd, hr⟩
  exact ⟨rfl, Rw.nil_ _, hw⟩
theorem RedQ.nod {v : Value} {b : Bytes} {nb : Nat} {w1 wr : World} {R : Option Addr} {n t : Nat} {l : List It} (h : RedQ v b nb w1 R n t l wr) (hs : Src wr v b) : Nod wr ⟨false, [], l.map asKid⟩ false (.slice none 0 0) (.slice R n t) := by
  obtain ⟨C, hn, _, hr, hd, _⟩ := h
  exact RedQ.nodC ⟨C, hn, hd, hr⟩ hs
set_option maxRecDepth 100000 in
set_option maxHeartbeats 12800000 in
theorem rform_K (w : World) (VA : Option Addr) (vn vc : Nat) (b : Bytes) (g xx : Int) (q cnt : Nat) (hq : tr g 4 8 8 = (q : Int)) (hq4 : 4 ≤ q) (hq8 : q ≤ 8) (hs : Src w (.slice VA vn vc) b) (hb : b.length ≤ 256) (hcnt : cnt ≤ 65535) :
    Calls Tryz.prog 21 #[.agg #[.int .i64 66, .int .i64 g, .int .i64 (cnt : Nat), .int .i64 xx], .slice VA vn vc] w (GaveFm w (FormOk g q false cnt xx b)) := by
  obtain ⟨w1, hw1⟩ : ∃ w1, w1 = ((w.alloc (.cells #[.int .i64 66, .int .i64 g, .int .i64 (cnt : Nat), .int .i64 xx] 55)).alloc (.cells #[.bool false, .slice none 0 0, .slice none 0 0] 35)).alloc (.cells #[.bool false, .slice none 0 0, .slice none 0 0] 35) := ⟨_, rfl⟩
  have HO : Hid (Only (w.heap.size ≤ ·) w w1) := Lib.hid (by rw [hw1]; exact (((Only.refl _ w).alloc (fun _ h => h) _).alloc (fun _ h => h) _).alloc (fun _ h => h) _)
  have HZ : Hid (w1.heap.size = w.heap.size + 3) := Lib.hid (by rw [hw1]; simp)
  have HHD : Hid (Blk w1 w.heap.size 55 [.int .i64 66, .int .i64 g, .int .i64 (cnt : Nat), .int .i64 xx]) := Lib.hid (by rw [hw1]; exact ((Blk.new w 55 _).alloc _).alloc _)
  have HRS : Hid (Blk w1 (w.heap.size + 1) 35 [.bool false, .slice none 0 0, .slice none 0 0]) := Lib.hid (by
    rw [hw1]
    have := Blk.new (w.alloc (.cells #[.int .i64 66, .int .i64 g, .int .i64 (cnt : Nat), .int .i64 xx] 55)) 35 [.bool false, .slice none 0 0, .slice none 0 0]
    exact Blk.alloc (by simpa using this) _)
  have HNB : Hid (Blk w1 (w.heap.size + 1 + 1) 35 [.bool false, .slice none 0 0, .slice none 0 0]) := Lib.hid (by
    rw [hw1]
    have := Blk.new ((w.alloc (.cells #[.int .i64 66, .int .i64 g, .int .i64 (cnt : Nat), .int .i64 xx] 55)).alloc (.cells #[.bool false, .slice none 0 0, .slice none 0 0] 35)) 35 [.bool false, .slice none 0 0, .slice none 0 0]
    simpa using this)
  have HI1 : Hid _ := Lib.hid (info_parts info_RK)
  have HSV : Hid (∀ W, Only (w.heap.size ≤ ·) w W → Src W (.slice VA vn vc) b) := Lib.hid fun W hW => hs.later hW
  have HON : Hid (∀ W (a : Nat), Only (w.heap.size ≤ ·) w W → Calls Tryz.prog 55 #[.int .i64 g, .bool false, .slice VA vn vc, .int .i64 (a : Nat)] W (GaveO W (.slice VA vn vc) b (oneF q false b a))) := Lib.hid fun W a hW => rone_c W g false _ b a q hq hq4 hq8 (hs.later hW) (by omega)
  obtain ⟨i0, i1, i2, i3⟩ := HHD.out.four
  clear hs hq
  go_enter Tryz.func21, Tryz.ntmps21
  go_upto_region 2 with (fail)
  rw [← hw1]
  clear hw1
  go_wp2_with (fail)
  go_loopw [7, 8] (fun av kv wr => ∃ (k a : Nat) (acc : List It) (R : Option Addr) (n t : Nat), k ≤ cnt ∧ n ≤ k ∧ kv = .int .i64 k ∧ av = .int .i64 a ∧ Hid (onesF q false b cnt 0 [] = onesF q false b (cnt - k) a acc) ∧ Hid (RedQ (.slice VA vn vc) b (w.heap.size + 1 + 1) w1 R n t acc wr)) (fun _ kv _ => cnt - (intOf kv).toNat)
  case atStart => exact ⟨0, 0, [], none, 0, 0, Nat.zero_le _, Nat.zero_le _, rfl, rfl, Lib.hid rfl, Lib.hid ⟨[], rfl, HNB.out, World.ownsRow_nil _ _ _ _, rfl, Only.refl _ _⟩⟩
  case round =>
    obtain ⟨k, a, acc, R, n, t, hk, hnk, rfl, rfl, HE, HR⟩ := hrel
    clear i0 i1 i2 i3
    have HOW : Hid (Only (w.heap.size ≤ ·) w wr) := Lib.hid (HO.out.trans (by obtain ⟨C, _, _, _, _, ho⟩ := HR.out; exact ho.mono fun j hj => by have := HZ.out; omega))
    have HHW : Hid (Blk wr w.heap.size 55 [.int .i64 66, .int .i64 g, .int .i64 (cnt : Nat), .int .i64 xx]) := Lib.hid (by obtain ⟨C, _, _, _, _, ho⟩ := HR.out; exact HHD.out.only ho (by have := HZ.out; omega))
    have HRW : Hid (Blk wr (w.heap.size + 1) 35 [.bool false, .slice none 0 0, .slice none 0 0]) := Lib.hid (by obtain ⟨C, _, _, _, _, ho⟩ := HR.out; exact HRS.out.only ho (by have := HZ.out; omega))
    have HNW : Hid (Blk wr (w.heap.size + 1 + 1) 35 [.bool false, .slice none 0 0, .slice R n t]) := Lib.hid (by obtain ⟨C, _, h, _⟩ := HR.out; exact h)
    obtain ⟨i0, i1, i2, i3⟩ := HHW.out.four
    obtain ⟨n0, n1, n2⟩ := HNW.out.tri
    by_cases hlt : k < cnt
    · have hlti : (k : Int) < (cnt : Int) := by omega
      go_upto_region 7 with (go_at_call 55; (with_reducible refine (HON.out _ _ HOW.out).mono ?_); rintro ee w3 ⟨ho3, P, pn, pc, Q, qn, qc, s, r, z, rfl, hno, hsm⟩; have HO3 := Lib.hid ho3; have HNO := Lib.hid hno; have HSM := Lib.hid hsm; clear ho3 hno hsm)
      obtain ⟨w4, hw4⟩ : ∃ w4, w4 = w3.alloc (.cells #[.slice P pn pc, .slice Q qn qc, .int .i64 s, .int .i64 r] 63) := ⟨_, rfl⟩
      have HO4 : Hid (Only (wr.heap.size ≤ ·) wr w4) := Lib.hid (by rw [hw4]; exact HO3.out.alloc (fun _ h => h) _)
      have HIB : Hid (Blk w4 w3.heap.size 63 [.slice P pn pc, .slice Q qn qc, .int .i64 s, .int .i64 r]) := Lib.hid (by rw [hw4]; exact Blk.new w3 63 _)
      have HOW4 := Lib.hid (on_new HOW.out HO4.out)
      have HRW4 := Lib.hid (HRW.out.later HO4.out)
      have HNW4 := Lib.hid (HNW.out.later HO4.out)
      have HIL : Hid (wr.heap.size ≤ w3.heap.size) := Lib.hid HO3.out.size
      rw [← hw4]
      clear hw4 i0 i1 i2 i3 n0 n1 n2
      obtain ⟨n0, n1, n2⟩ := HNW4.out.tri
      obtain ⟨b0, b1, b2, b3⟩ := HIB.out.four
      have y0 := HNW4.out.frozen 0
      have y1 := HNW4.out.frozen 1
      have y2 := HNW4.out.frozen 2
      obtain ⟨ck, hck⟩ : ∃ c, cnt - k = c + 1 := ⟨cnt - k - 1, by omega⟩
      cases ho : oneF q false b a with
      | none =>
        have hz := HNO.out ho
        subst hz
        obtain ⟨r0, r1, r2⟩ := HRW4.out.tri
        have x0 := HRW4.out.frozen 0
        have x1 := HRW4.out.frozen 1
        have x2 := HRW4.out.frozen 2
        have HNN : Hid (onesF q false b cnt 0 [] = none) := Lib.hid (by rw [HE.out, hck, onesF_stop ho])
        clear hck ho
        go_wp2
        exact bodyPost_ret (results_cell_tmp rfl rfl (rload_node (((HRW4.out.set_ 0 _).set_ 1 _).set_ 2 _))) rfl ⟨((HOW4.out.setCell (p := ⟨w.heap.size + 1, 0, none⟩) (Nat.le_succ _) _).setCell (p := ⟨w.heap.size + 1, 1, none⟩) (Nat.le_succ _) _).setCell (p := ⟨w.heap.size + 1, 2, none⟩) (Nat.le_succ _) _, false, _, _, _, _, _, _, _, rfl, (fun h => by cases h), fun ⟨x, m, z, h, _⟩ => by rw [HNN.out] at h; cases h⟩
      | some y =>
        obtain ⟨y, zz⟩ := y
        obtain ⟨hz, h1, h2, h3, h4, h5, h6⟩ := HSM.out _ ho
        simp only at hz h1 h2 h3 h4 h5 h6
        subst hz
        have HNX : Hid (onesF q false b cnt 0 [] = onesF q false b (cnt - (k + 1)) zz (acc ++ [y])) := Lib.hid (by rw [HE.out, hck, onesF_next ho, show cnt - (k + 1) = ck from by omega])
        have HYP : Hid (kdP (.slice VA vn vc) b y [.slice P pn pc, .int .i64 r]) := Lib.hid ⟨P, pc, by rw [h1, h6], by rw [← h1]; exact h3⟩
        clear hck ho h1 h2 h3 h4 h5 h6
        have hzn : ¬ (zz : Int) < 0 := by omega
        obtain ⟨C, hnl, _, hro, hden, hon⟩ := HR.out
        have HRO : Hid (w4.ownsRow w1.heap.size 65 2 (.slice R n t) n C) := Lib.hid (own_later hro HO4.out)
        have HDN := Lib.hid hden
        have HNL := Lib.hid hnl
        have HON1 : Hid (Only (fun j => j = w.heap.size + 1 + 1 ∨ w1.heap.size ≤ j) w1 w4) := Lib.hid (hon.trans (HO4.out.mono fun j hj => .inr (Nat.le_trans hon.size hj)))
        clear hnl hro hden hon
        obtain ⟨ii, hi0, hz0, hz1, hz2⟩ := HI1.out
        have HI2 := Lib.hid (And.intro hi0 (And.intro hz0 (And.intro hz1 hz2)))
        have HBA : Hid (Blk (w4.alloc (.cells #[.slice P pn pc, .int .i64 r] 65)) w4.heap.size 65 [.slice P pn pc, .int .i64 r]) := Lib.hid (Blk.new w4 65 _)
        have HSZ : Hid (w1.heap.size ≤ w4.heap.size ∧ w.heap.size + 1 + 1 < w4.heap.size ∧ w.heap.size + 1 + 1 < w1.heap.size) := Lib.hid ⟨HON1.out.size, HNW4.out.lt, by have := HZ.out; omega⟩
        clear hi0 hz0 hz1 hz2
        go_wp2_with (at_builtin; refine wpList_append_own _ rfl (.tmp 45) (.tmp 51) 33 rfl w1.heap.size 65 ii zK 2 32 Tryz.underlying33 HI2.out.1 HI2.out.2.1 HI2.out.2.2.1 HI2.out.2.2.2 (by rfl) (by omega) (.slice R n t) n C rfl (World.ownsRow.alloc HRO.out _) ⟨w4.heap.size, 0, none⟩ 1 1 [.slice P pn pc, .int .i64 r] rfl rfl (fun j u hu => by rw [Addr.add_lit, HBA.out.cell, Nat.zero_add]; exact hu) (by simp [Value.oneCell']) (by simp only [maxLen]; omega) (by omega) (by have := HSZ.out; simp; omega) ?_; intro v' w5 ho5 hg5 _; (obtain ⟨R2, t2, rfl, _⟩ := raw_of_own ho5); have HO5 := Lib.hid ho5; have HG5 := Lib.hid hg5; have HN5 : Hid (Blk w5 (w.heap.size + 1 + 1) 35 [.bool false, .slice none 0 0, .slice R n t]) := Lib.hid ((hg5.block _ (by have := HSZ.out; simp; omega) (fun e => by have := (World.ownsRow.lt HRO.out _ e.symm).1; have := HSZ.out; omega)).trans (HNW4.out.alloc _)); clear ho5 hg5 n0 n1 n2 y0 y1 y2; (obtain ⟨n0, n1, n2⟩ := HN5.out.tri); have y0 := HN5.out.frozen 0; have y1 := HN5.out.frozen 1; have y2 := HN5.out.frozen 2)
        go_roundw
        case rel =>
          refine ⟨k + 1, zz, acc ++ [y], R2, n + 1, t2, by omega, by omega, by go_num, rfl, HNX, Lib.hid ⟨C ++ [.slice P pn pc, .int .i64 r], by rw [List.length_append, HNL.out]; rfl, HN5.out.set_ 2 _, ?_, Den.append HDN.out (Den.single HYP.out), ?_⟩⟩
          · exact own_on HO5.out ((Only.refl (· = w.heap.size + 1 + 1) w5).setCell (p := ⟨w.heap.size + 1 + 1, 2, none⟩) rfl _) (fun j hj hf => by have := (World.ownsRow.lt HO5.out j hj).1; have := HSZ.out; omega)
          · exact ((HON1.out.alloc (fun j hj => .inr hj) _).grown HG5.out (fun j hj => .inr hj) (fun j hj => .inr (World.ownsRow.lt HRO.out j hj).1)).setCell (p := ⟨w.heap.size + 1 + 1, 2, none⟩) (.inl rfl) _
        case measure => simp [intOf]; omega
    · obtain rfl : cnt = k := by omega
      have hkk : ¬ (cnt : Int) < (cnt : Int) := by omega
      have HALL : Hid (onesF q false b cnt 0 [] = some (acc, a)) := Lib.hid (by rw [HE.out, Nat.sub_self]; rfl)
      have hvn : vn = b.length := by
        obtain ⟨A', c', e, _⟩ := HSV.out _ HOW.out
        simp only [Value.slice.injEq] at e
        exact e.2.1
      have HVN := Lib.hid hvn
      have hvn2 : vn ≤ 256 := by omega
      clear hvn
      go_wp2_with (fail)
      go_loopw [7] (fun av wz => ∃ z : Nat, a ≤ z ∧ av = .int .i64 z ∧ Hid (∀ j, a ≤ j → j < z → j < b.length → b.getD j 0 = 0) ∧ z ≤ max a b.length ∧ wr = wz) (fun av _ => 256 - (intOf av).toNat)
      case atStart => exact ⟨a, Nat.le_refl _, rfl, Lib.hid (fun j h1 h2 => by omega), Nat.le_max_left _ _, rfl⟩
      case round =>
        obtain ⟨z, haz, rfl, HZZ, hzm, rfl⟩ := hrel
        by_cases hzl : z < vn
        · have hzi : (z : Int) < (vn : Int) := by omega
          have hz0 : (0 : Int) ≤ (z : Int) := by omega
          obtain ⟨D, hD⟩ : ∃ d, d = (b.getD z 0).toNat := ⟨_, rfl⟩
          have hSV := HSV.out _ HOW.out
          obtain ⟨A', c', e, ht, _⟩ := hSV
          simp only [Value.slice.injEq] at e
          obtain ⟨rfl, e2, rfl⟩ := e
          obtain ⟨ad, rfl, hc⟩ := ht.2 (by omega)
          have h1 := hc z (.int .u8 (D : Nat)) (by unfold cb; rw [List.getElem?_map, List.getElem?_eq_getElem (by omega), hD, List.getD_eq_getElem?_getD, List.getElem?_eq_getElem (by omega)]; rfl)
          obtain ⟨bl, o, hado⟩ : ∃ bl o, ad = ⟨bl, o, none⟩ := ⟨_, _, by
            have h0 := hc 0 (.int .u8 ((b[0]'(by omega)).toNat : Nat)) (by unfold cb; rw [List.getElem?_map, List.getElem?_eq_getElem (by omega)]; rfl)
            have ee : ad.add 0 = ad := by cases ad; simp [Addr.add]
            rw [ee] at h0
            exact spotF h0⟩
          subst hado
          rw [Addr.add_lit] at h1
          clear ht hc e2
          by_cases hD0 : D = 0
          · have HZN : Hid (b.getD z 0 = 0) := Lib.hid (by rw [hD0] at hD; exact UInt8.toNat_inj.1 hD.symm)
            have HMX : Hid (z + 1 ≤ max a b.length) := Lib.hid (by have := HVN.out; omega)
            clear hD
            subst hD0
            go_wp2
            go_roundw
            case rel => exact ⟨z + 1, by omega, by go_num, Lib.hid (fun j g1 g2 g3 => by
              by_cases e : j = z
              · subst e; exact HZN.out
              · exact HZZ.out j g1 (by omega) g3), HMX.out, trivial⟩
            case measure => simp [intOf]; omega
          · have hDi : ((D : Int) != 0) = true := by rw [bne_iff_ne]; omega
            have hDn : ¬ (D : Int) = 0 := by omega
            obtain ⟨r0, r1, r2⟩ := HRW.out.tri
            have x0 := HRW.out.frozen 0
            have x1 := HRW.out.frozen 1
            have x2 := HRW.out.frozen 2
            have HNF : Hid (∀ x, ¬ FormOk g q false cnt xx b x) := Lib.hid (fun x ⟨m, zz, h, h0, _⟩ => by
              rw [HALL.out] at h
              cases h
              have h2 : b.getD z 0 ∈ b.drop a := by
                have : (b.drop a)[z - a]? = some (b.getD z 0) := by rw [List.getElem?_drop, show a + (z - a) = z from by omega, List.getD_eq_getElem?_getD, List.getElem?_eq_getElem (by have := HVN.out; omega)]; rfl
                exact List.mem_of_getElem? this
              have h3 := h0 _ h2
              rw [h3] at hD
              exact hD0 hD)
            clear hD
            go_wp2
            exact bodyPost_ret (results_cell_tmp rfl rfl (rload_node (((HRW.out.set_ 0 _).set_ 1 _).set_ 2 _))) rfl ⟨((HOW.out.setCell (p := ⟨w.heap.size + 1, 0, none⟩) (Nat.le_succ _) _).setCell (p := ⟨w.heap.size + 1, 1, none⟩) (Nat.le_succ _) _).setCell (p := ⟨w.heap.size + 1, 2, none⟩) (Nat.le_succ _) _, false, _, _, _, _, _, _, _, rfl, (fun h => by cases h), fun ⟨x, h⟩ => absurd h (HNF.out x)⟩
        · have hzi : ¬ (z : Int) < (vn : Int) := by omega
          have HZA : Hid (∀ y ∈ b.drop a, y = 0) := Lib.hid (fun y hy => by
            obtain ⟨j, hj, e⟩ := List.mem_iff_getElem.1 hy
            rw [List.length_drop] at hj
            have h1 := HZZ.out (a + j) (by omega) (by have := HVN.out; omega) (by omega)
            rw [List.getD_eq_getElem?_getD, List.getElem?_eq_getElem (by omega)] at h1
            rw [← e, List.getElem_drop]
            exact h1)
          go_wp2_with (fail)
          have HNR : Hid (Nod wr ⟨false, [], acc.map asKid⟩ false (.slice none 0 0) (.slice R n t)) := Lib.hid (HR.out.nod (HSV.out _ HOW.out))
          have HNL : Hid (n = acc.length) := Lib.hid (by obtain ⟨C, h, _⟩ := HR.out; exact h)
          go_loopw [11] (fun iv wz => iv = .int .i64 0 ∧ Hid (Only (wr.heap.size ≤ ·) wr wz)) (fun iv _ => 0)
          case atStart => exact ⟨rfl, Lib.hid (Only.refl _ _)⟩
          case round =>
            rename World => wz
            obtain ⟨rfl, HW⟩ := hrel
            clear n0 n1 n2 i0 i1 i2 i3
            obtain ⟨i0, i1, i2, i3⟩ := (HHW.out.later HW.out).four
            obtain ⟨n0, n1, n2⟩ := (HNW.out.later HW.out).tri
            have HRZ := Lib.hid (HRW.out.later HW.out)
            have HOZ := Lib.hid (on_new HOW.out HW.out)
            have HRQ := HRZ
            have hnk2 : n ≤ 65535 := by omega
            have KK : Hid (∀ W, Only (fun i => i = w.heap.size + 1 ∨ wz.heap.size ≤ i) wz W → W.cell? ⟨w.heap.size + 1 + 1, 0, none⟩ = some (.bool false) ∧ W.cell? ⟨w.heap.size + 1 + 1, 1, none⟩ = some (.slice none 0 0) ∧ W.cell? ⟨w.heap.size + 1 + 1, 2, none⟩ = some (.slice R n t) ∧ W.cell? ⟨w.heap.size, 0, none⟩ = some (.int .i64 66) ∧ W.cell? ⟨w.heap.size, 1, none⟩ = some (.int .i64 g) ∧ W.cell? ⟨w.heap.size, 2, none⟩ = some (.int .i64 (cnt : Nat)) ∧ W.cell? ⟨w.heap.size, 3, none⟩ = some (.int .i64 xx)) := Lib.hid fun W hW => by
              have q1 := (HNW.out.later HW.out).only hW (by have := (HNW.out.later HW.out).lt; omega)
              have q2 := (HHW.out.later HW.out).only hW (by have := (HHW.out.later HW.out).lt; omega)
              exact ⟨q1.tri.1, q1.tri.2.1, q1.tri.2.2, q2.four⟩
            have HDR : Hid (∀ W, Only (wz.heap.size ≤ ·) wz W → Calls Tryz.prog 57 #[.int .i64 g, .agg #[.bool false, .slice none 0 0, .slice R n t]] W (ToldB W (fun b => b = true ↔ RightN g ⟨false, [], acc.map asKid⟩))) := Lib.hid fun W hW => DRight_x W false none R 0 0 n t ⟨false, [], acc.map asKid⟩ g ((HNR.out.later HW.out).later hW) (by unfold many; simp only [Bool.false_eq_true, if_false, List.length_map]; have := HNL.out; omega)
            have HSN : Hid (∀ W W', Only (· = w.heap.size + 1) W W' → Only (wz.heap.size ≤ ·) wz W → Nod W' ⟨false, [], acc.map asKid⟩ false (.slice none 0 0) (.slice R n t)) := Lib.hid fun W W' h1 h2 => by
              obtain ⟨C, hn, hb2, hro, hden, hon⟩ := HR.out
              have hW : Only (wr.heap.size ≤ ·) wr W := on_new HW.out h2
              have hro' := own_on (own_later hro hW) h1 (fun j hj hf => by have := (World.ownsRow.lt hro j hj).1; have := HZ.out; omega)
              have hso : Src W' (.slice VA vn vc) b := HSV.out _ ((on_new HOW.out hW).trans (h1.mono fun j hj => by omega))
              exact RedQ.nodC ⟨C, hn, hden, hro'⟩ hso
            have HFO : Hid (∀ x, FormOk g q false cnt xx b x → xx = 0 ∧ RightN g ⟨false, [], acc.map asKid⟩) := Lib.hid (fun x ⟨m, zz, h, _, hx, _, h0, hR⟩ => by
              rw [HALL.out] at h
              cases h
              subst hx
              exact ⟨h0, hR⟩)
            have HFM : Hid (xx = 0 → RightN g ⟨false, [], acc.map asKid⟩ → FormOk g q false cnt xx b ⟨false, [], acc.map asKid⟩) := Lib.hid (fun h0 hR => ⟨acc, a, HALL.out, HZA.out, rfl, rfl, h0, hR⟩)
            by_cases hx0 : xx = 0
            · subst hx0
              go_wp2_with (fail)
              try clear n0 n1 n2 i0 i1 i2 i3
              have HOQ : Hid (Only (wz.heap.size ≤ ·) wz wz.drew) := Lib.hid (Only.refl _ wz).drew
              refine wp_region_list (B := [false, false, false, false, false, false, false, false, false, false, false, false]) (S := (fun W => W.cell? ⟨w.heap.size + 1 + 1, 0, none⟩ = some (.bool false) ∧ W.cell? ⟨w.heap.size + 1 + 1, 1, none⟩ = some (.slice none 0 0) ∧ W.cell? ⟨w.heap.size + 1 + 1, 2, none⟩ = some (.slice R n t) ∧ W.cell? ⟨w.heap.size, 0, none⟩ = some (.int .i64 66) ∧ W.cell? ⟨w.heap.size, 1, none⟩ = some (.int .i64 g) ∧ W.cell? ⟨w.heap.size, 2, none⟩ = some (.int .i64 (cnt : Nat)) ∧ W.cell? ⟨w.heap.size, 3, none⟩ = some (.int .i64 0))) (by kernel_rfl) (by kernel_rfl) (by kernel_rfl) (KK.out _ (Only.refl _ _).drew) (fun hsel hHeld => ?_)
              generalize hwq : World.drew _ = wq at HOQ hHeld ⊢
              clear hwq
              refine oneA 0 89 hsel (h := ?_)
              simp only [Act.put, List.setIfInBounds_toArray, List.set_cons_zero, List.set_cons_succ]
              refine oneA 1 90 hsel (h := ?_)
              simp only [Act.put, List.setIfInBounds_toArray, List.set_cons_zero, List.set_cons_succ]
              refine oneA 2 91 hsel (h := ?_)
              simp only [Act.put, List.setIfInBounds_toArray, List.set_cons_zero, List.set_cons_succ]
              refine oneA 3 92 hsel (h := ?_)
              simp only [Act.put, List.setIfInBounds_toArray, List.set_cons_zero, List.set_cons_succ]
              refine oneA 4 93 hsel (h := ?_)
              simp only [Act.put, List.setIfInBounds_toArray, List.set_cons_zero, List.set_cons_succ]
              refine oneA 5 94 hsel (h := ?_)
              simp only [Act.put, List.setIfInBounds_toArray, List.set_cons_zero, List.set_cons_succ]
              refine oneA 6 95 hsel (h := ?_)
              simp only [Act.put, List.setIfInBounds_toArray, List.set_cons_zero, List.set_cons_succ]
              refine oneA 7 96 hsel (h := ?_)
              simp only [Act.put, List.setIfInBounds_toArray, List.set_cons_zero, List.set_cons_succ]
              refine wpAnyL_ready (rs := [8]) (by kernel_rfl) (by kernel_rfl) (by simp) ?_
              refine AllReadyL.cons (o := ?_) ?_ (fun K hK => ?_) AllReadyL.nil
              case refine_2 => (simp only [List.getElem?_cons_succ, List.getElem?_cons_zero]; rfl)
              go_simp
              (go_at_call 57; (with_reducible refine (HDR.out _ HOQ.out).mono ?_); rintro ee w8 ⟨bR, rfl, hbR, ho⟩; have HBR := Lib.hid hbR; (replace HOQ := Lib.hid (on_new HOQ.out ho)); clear ho hbR)
              go_wp2_with (fail)
              try clear n0 n1 n2 i0 i1 i2 i3
              clear hHeld
              refine hK.out _ _ (KK.out _ (Only.mono (G := fun i => i = w.heap.size + 1 ∨ wz.heap.size ≤ i) HOQ.out fun j hj => Or.inr hj)) (fun hHeld => ?_)
              clear hK K
              try simp only [List.set_cons_zero, List.set_cons_succ]
              refine oneA 9 98 hsel (h := ?_)
              simp only [Act.put, List.setIfInBounds_toArray, List.set_cons_zero, List.set_cons_succ]
              refine wpAnyL_ready (rs := [10]) (by kernel_rfl) (by kernel_rfl) (by simp) ?_
              refine AllReadyL.cons (o := ?_) ?_ (fun K hK => ?_) AllReadyL.nil
              case refine_2 => (simp only [List.getElem?_cons_succ, List.getElem?_cons_zero]; rfl)
              (obtain ⟨r0, r1, r2⟩ := (HRQ.out.later HOQ.out).tri)
              have x0 := (HRQ.out.later HOQ.out).frozen 0
              have x1 := (HRQ.out.later HOQ.out).frozen 1
              have x2 := (HRQ.out.later HOQ.out).frozen 2
              go_simp
              clear hHeld
              refine hK.out _ _ (KK.out _ ((((Only.mono (G := fun i => i = w.heap.size + 1 ∨ wz.heap.size ≤ i) HOQ.out fun j hj => Or.inr hj).setCell (p := ⟨w.heap.size + 1, 0, none⟩) (.inl rfl) _).setCell (p := ⟨w.heap.size + 1, 1, none⟩) (.inl rfl) _).setCell (p := ⟨w.heap.size + 1, 2, none⟩) (.inl rfl) _)) (fun hHeld => ?_)
              clear hK K
              try simp only [List.set_cons_zero, List.set_cons_succ]
              refine oneA 11 5 hsel (h := ?_)
              simp only [Act.put, List.setIfInBounds_toArray, List.set_cons_zero, List.set_cons_succ]
              refine wpAnyL_done (by kernel_rfl) (by kernel_rfl) ?_ _
              clear hsel hHeld
              go_wp2
              exact bodyPost_ret (results_cell_tmp rfl rfl (rload_node ((((HRQ.out.later HOQ.out).set_ 0 _).set_ 1 _).set_ 2 _))) rfl ⟨((((on_new HOZ.out HOQ.out).setCell (p := ⟨w.heap.size + 1, 0, none⟩) (Nat.le_succ _) _).setCell (p := ⟨w.heap.size + 1, 1, none⟩) (Nat.le_succ _) _).setCell (p := ⟨w.heap.size + 1, 2, none⟩) (Nat.le_succ _) _), bR, _, _, _, _, _, _, _, rfl, (fun h => ⟨_, HFM.out (by simp) (HBR.out.1 h), HSN.out _ _ ((((Only.refl (· = w.heap.size + 1) _).setCell (p := ⟨w.heap.size + 1, 0, none⟩) rfl _).setCell (p := ⟨w.heap.size + 1, 1, none⟩) rfl _).setCell (p := ⟨w.heap.size + 1, 2, none⟩) rfl _) HOQ.out⟩), (fun ⟨x, h⟩ => HBR.out.2 (HFO.out x h).2)⟩
            · have hxi : (xx == 0) = false := by rw [beq_eq_false_iff_ne]; exact hx0
              go_wp2_with (fail)
              try clear n0 n1 n2 i0 i1 i2 i3
              have HOQ : Hid (Only (wz.heap.size ≤ ·) wz wz.drew) := Lib.hid (Only.refl _ wz).drew
              refine wp_region_list (B := [false, false, false, false, false, false, false, false, false, false, false, false]) (S := (fun W => W.cell? ⟨w.heap.size + 1 + 1, 0, none⟩ = some (.bool false) ∧ W.cell? ⟨w.heap.size + 1 + 1, 1, none⟩ = some (.slice none 0 0) ∧ W.cell? ⟨w.heap.size + 1 + 1, 2, none⟩ = some (.slice R n t) ∧ W.cell? ⟨w.heap.size, 0, none⟩ = some (.int .i64 66) ∧ W.cell? ⟨w.heap.size, 1, none⟩ = some (.int .i64 g) ∧ W.cell? ⟨w.heap.size, 2, none⟩ = some (.int .i64 (cnt : Nat)) ∧ W.cell? ⟨w.heap.size, 3, none⟩ = some (.int .i64 xx))) (by kernel_rfl) (by kernel_rfl) (by kernel_rfl) (KK.out _ (Only.refl _ _).drew) (fun hsel hHeld => ?_)
              generalize hwq : World.drew _ = wq at HOQ hHeld ⊢
              clear hwq
              refine oneA 0 89 hsel (h := ?_)
              simp only [Act.put, List.setIfInBounds_toArray, List.set_cons_zero, List.set_cons_succ]
              refine oneA 1 90 hsel (h := ?_)
              simp only [Act.put, List.setIfInBounds_toArray, List.set_cons_zero, List.set_cons_succ]
              refine oneA 2 91 hsel (h := ?_)
              simp only [Act.put, List.setIfInBounds_toArray, List.set_cons_zero, List.set_cons_succ]
              refine oneA 3 92 hsel (h := ?_)
              simp only [Act.put, List.setIfInBounds_toArray, List.set_cons_zero, List.set_cons_succ]
              refine oneA 4 93 hsel (h := ?_)
              simp only [Act.put, List.setIfInBounds_toArray, List.set_cons_zero, List.set_cons_succ]
              refine take_skipL (i := 5) (d := 94) (oi := ?_) ?_ hsel (by kernel_rfl) (by kernel_rfl) (fun _ _ _ h => h) ?_ ?_ (by assumption) ?_
              case refine_2 => (simp only [List.getElem?_cons_succ, List.getElem?_cons_zero]; rfl)
              case refine_3 => rfl
              case refine_4 => rfl
              simp only [Act.put, List.setIfInBounds_toArray, List.set_cons_zero, List.set_cons_succ]
              refine take_skipL (i := 6) (d := 95) (oi := ?_) ?_ hsel (by kernel_rfl) (by kernel_rfl) (fun _ _ _ h => h) ?_ ?_ (by assumption) ?_
              case refine_2 => (simp only [List.getElem?_cons_succ, List.getElem?_cons_zero]; rfl)
              case refine_3 => rfl
              case refine_4 => rfl
              simp only [Act.put, List.setIfInBounds_toArray, List.set_cons_zero, List.set_cons_succ]
              refine take_skipL (i := 7) (d := 96) (oi := ?_) ?_ hsel (by kernel_rfl) (by kernel_rfl) (fun _ _ _ h => h) ?_ ?_ (by assumption) ?_
              case refine_2 => (simp only [List.getElem?_cons_succ, List.getElem?_cons_zero]; rfl)
              case refine_3 => rfl
              case refine_4 => rfl
              simp only [Act.put, List.setIfInBounds_toArray, List.set_cons_zero, List.set_cons_succ]
              refine take_skipL (i := 8) (d := 97) (oi := ?_) ?_ hsel (by kernel_rfl) (by kernel_rfl) (fun _ _ _ h => h) ?_ ?_ (by assumption) ?_
              case refine_2 => (simp only [List.getElem?_cons_succ, List.getElem?_cons_zero]; rfl)
              case refine_3 => rfl
              case refine_4 => rfl
              simp only [Act.put, List.setIfInBounds_toArray, List.set_cons_zero, List.set_cons_succ]
              refine oneA 9 98 hsel (h := ?_)
              simp only [Act.put, List.setIfInBounds_toArray, List.set_cons_zero, List.set_cons_succ]
              refine wpAnyL_ready (rs := [10]) (by kernel_rfl) (by kernel_rfl) (by simp) ?_
              refine AllReadyL.cons (o := ?_) ?_ (fun K hK => ?_) AllReadyL.nil
              case refine_2 => (simp only [List.getElem?_cons_succ, List.getElem?_cons_zero]; rfl)
              (obtain ⟨r0, r1, r2⟩ := (HRQ.out.later HOQ.out).tri)
              have x0 := (HRQ.out.later HOQ.out).frozen 0
              have x1 := (HRQ.out.later HOQ.out).frozen 1
              have x2 := (HRQ.out.later HOQ.out).frozen 2
              go_simp
              clear hHeld
              refine hK.out _ _ (KK.out _ ((((Only.mono (G := fun i => i = w.heap.size + 1 ∨ wz.heap.size ≤ i) HOQ.out fun j hj => Or.inr hj).setCell (p := ⟨w.heap.size + 1, 0, none⟩) (.inl rfl) _).setCell (p := ⟨w.heap.size + 1, 1, none⟩) (.inl rfl) _).setCell (p := ⟨w.heap.size + 1, 2, none⟩) (.inl rfl) _)) (fun hHeld => ?_)
              clear hK K
              try simp only [List.set_cons_zero, List.set_cons_succ]
              refine oneA 11 5 hsel (h := ?_)
              simp only [Act.put, List.setIfInBounds_toArray, List.set_cons_zero, List.set_cons_succ]
              refine wpAnyL_done (by kernel_rfl) (by kernel_rfl) ?_ _
              clear hsel hHeld
              go_wp2
              exact bodyPost_ret (results_cell_tmp rfl rfl (rload_node ((((HRQ.out.later HOQ.out).set_ 0 _).set_ 1 _).set_ 2 _))) rfl ⟨((((on_new HOZ.out HOQ.out).setCell (p := ⟨w.heap.size + 1, 0, none⟩) (Nat.le_succ _) _).setCell (p := ⟨w.heap.size + 1, 1, none⟩) (Nat.le_succ _) _).setCell (p := ⟨w.heap.size + 1, 2, none⟩) (Nat.le_succ _) _), false, _, _, _, _, _, _, _, rfl, (fun h => by cases h), (fun ⟨x, h⟩ => absurd (HFO.out x h).1 hx0)⟩
end Go.Proofs.YtoghojgajpfkkaaGreatDoor
