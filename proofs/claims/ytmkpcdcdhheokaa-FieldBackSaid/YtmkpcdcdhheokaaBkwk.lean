/-
  FieldBack: the walk.
-/
import Derived.Test.YtmkpcdcdhheokaaBpln
import Derived.Deep.RegionHeld3
import Derived.Outline
set_option linter.unusedVariables false
namespace Go.Proofs.Ytmkpcdcdhheokaa
open Go.RowKit

section
variable {P : Program} {ops : Array Oper} {Q : Exit → Act → World → Prop} {md : Region.Mode} {S : World → Prop}
/-- An operation that is wanted and reads alone, taken next; its slot is named. -/
theorem take_one {i d : Nat} {oi : Oper} {v : Value} {fuel : Nat} {listed : Array Bool} {a : Act} {w : World} (hi : ops[i]? = some oi)
    (hs : Region.noSelect ops = true) (hf : Region.free md ops listed i = true) (hr : (Region.ready md ops listed).contains i = true)
    (hQ : ∀ c a w, Q (.panic c) (a.put (some d) v) w → Q (.panic c) a w) (hd : oi.dst = some d) (hw : Region.wanted oi (yielded ops a.tmps) = true) (hy : ∀ w, S w → (execOp a.eval oi).run P w = .ok (.value v) w) (hS : S w)
    (h : wpAnyH P md ops Q S fuel (listed.setIfInBounds i true) (a.put (some d) v) w) : wpAnyH P md ops Q S (fuel + 1) listed a w :=
  wpAnyH_take hi hs hf hr (by rw [hd]; exact hQ) (.inl ⟨hw, hy⟩) hS (by rw [hd]; exact h)
/-- One that is not wanted. -/
theorem take_skip {i d : Nat} {oi : Oper} {fuel : Nat} {listed : Array Bool} {a : Act} {w : World} (hi : ops[i]? = some oi)
    (hs : Region.noSelect ops = true) (hf : Region.free md ops listed i = true) (hr : (Region.ready md ops listed).contains i = true)
    (hQ : ∀ c a w, Q (.panic c) (a.put (some d) undef) w → Q (.panic c) a w) (hd : oi.dst = some d) (hw : Region.wanted oi (yielded ops a.tmps) = false) (hS : S w)
    (h : wpAnyH P md ops Q S fuel (listed.setIfInBounds i true) (a.put (some d) undef) w) : wpAnyH P md ops Q S (fuel + 1) listed a w :=
  wpAnyH_take hi hs hf hr (by rw [hd]; exact hQ) (.inr ⟨hw, rfl⟩) hS (by rw [hd]; exact h)
end

section
variable {w : World} {p g q s a : Nat} {b X R xs : Bytes}
theorem put_wst (h : Holds w p g 41 (wst X)) (o : Cl) (hf : fits o.n o.width = true) (hl : X.length + 8 ≤ 16384) (h1 : -9223372036854775808 ≤ o.n) (h2 : o.n ≤ 9223372036854775807) : Calls Try.prog 11 #[.pointer (some ⟨p, 0, none⟩), .int .i64 o.n, .int .i64 o.width] w fun e w' => e = .returned (.tuple #[]) ∧ Holds w' p g 41 (wst (X ++ le o.n.toNat o.width.toNat)) ∧ Only (Foot p g) w w' := by
  have := Put_c w p g _ h o.n o.width h1 h2
  rwa [wst_put X o.n o.width hf hl] at this
theorem bytes_wst (h : Holds w p g 41 (wst X)) (v : Value) (hx : Src w v xs) (hf : ∀ ad n c', v = .slice (some ad) n c' → 0 < n → ¬ Foot p g ad.block) (hl : X.length + xs.length ≤ 16384) : Calls Try.prog 13 #[.pointer (some ⟨p, 0, none⟩), v] w fun e w' => e = .returned (.tuple #[]) ∧ Holds w' p g 41 (wst (X ++ xs)) ∧ Only (Foot p g) w w' := by
  have := WBytes_c w p g _ h v xs hx hf
  rwa [wst_write X xs hl] at this
theorem done_wst (h : Holds w p g 41 (wst X)) : Calls Try.prog 17 #[.pointer (some ⟨p, 0, none⟩)] w fun e w' => ∃ v, e = .returned (.tuple #[v, .int .i64 0]) ∧ Src w' v (wst X).b ∧ Only (w.heap.size ≤ ·) w w' := Done_c w p g _ h
theorem get_rst (h : Holds w q s 55 (rst b a)) (o : Cl) (ha : a ≤ b.length) (hf : fits o.n o.width = true) (h2 : o.n ≤ 9223372036854775807) (hd : b.drop a = le o.n.toNat o.width.toNat ++ R) : Calls Try.prog 22 #[.pointer (some ⟨q, 0, none⟩), .int .i64 o.width] w fun e w' => e = .returned (.int .i64 o.n) ∧ Holds w' q s 55 (rst b (a + (le o.n.toNat o.width.toNat).length)) ∧ Only (· = q) w w' := by
  have := Get_c w q s _ h o.width
  unfold Gets at this
  obtain ⟨e1, e2⟩ := rst_get ha hf h2 hd
  rwa [e1, e2] at this
theorem read_rst (h : Holds w q s 55 (rst b a)) (ha : a ≤ b.length) (hd : b.drop a = xs ++ R) : Calls Try.prog 23 #[.pointer (some ⟨q, 0, none⟩), .int .i64 xs.length] w fun e w' => ∃ A cp, e = .returned (.slice A xs.length cp) ∧ Src w' (.slice A xs.length cp) xs ∧ Holds w' q s 55 (rst b (a + xs.length)) ∧ Only (fun k => k = q ∨ w.heap.size ≤ k) w w' := by
  refine (RBytes_c w q s _ h xs.length).mono fun e w' ⟨v, h1, h2, h3, h4⟩ => ?_
  rw [rst_got ha hd] at h2
  rw [rst_take ha hd] at h3
  obtain ⟨A, cp, rfl, h5⟩ := id h2
  exact ⟨A, cp, h1, h2, h3, h4⟩
theorem err_rst (h : Holds w q s 55 (rst b a)) : Calls Try.prog 24 #[.pointer (some ⟨q, 0, none⟩)] w fun e w' => e = .returned (.int .i64 0) ∧ w = w' := Err_c w q s _ h
theorem at_rst (h : Holds w q s 55 (rst b a)) : Calls Try.prog 18 #[.pointer (some ⟨q, 0, none⟩)] w fun e w' => e = .returned (.int .i64 a) ∧ w = w' := At_c w q s _ _ h
theorem at_wst (h : Holds w p g 41 (wst X)) : Calls Try.prog 18 #[.pointer (some ⟨p, 0, none⟩)] w fun e w' => e = .returned (.int .i64 X.length) ∧ w = w' := At_c w p g _ _ h
end

set_option maxRecDepth 100000 in
set_option maxHeartbeats 6400000 in
theorem back_walk (w : World) (A : Option Addr) (n c : Nat) (l : List Cl) (h : Script w A n l) (hn : n ≤ 140737488355328) :
    Calls Try.prog 4 #[.slice A n c] w fun e w' => e = .returned (.bool true) ∧ Only (w.heap.size ≤ ·) w w' := by
  have HS := Lib.hid h
  by_cases hf : n ≤ 100 ∧ total l ≤ 4000
  · have HF : Hid (Calls Try.prog 7 #[.slice A n c] w fun e w' => e = .returned (.bool true) ∧ Only (w.heap.size ≤ ·) w w') := (few_c w A n c l h hn).mono fun e w' ⟨h1, h2⟩ => ⟨by rw [h1, decide_eq_true hf], h2⟩
    have HB : Hid (∀ k, k ≤ n → (cat (l.take k)).length ≤ 4800) := by
      intro k hk
      have h1 := cat_len l k
      have h2 := total_le_all l k
      omega
    have hn' : (n : Int) ≤ 140737488355328 := by omega
    clear h hf
    go_enter Try.func4, Try.ntmps4
    go_wp2_with (first | (go_at_call 7; refine HF.out.mono ?_; rintro e w1 ⟨rfl, ho⟩; have O1 := Lib.hid ho; clear ho) | (go_at_call 9; refine (NewWriter_c _ 16384).mono ?_; rintro e w2 ⟨p, g, rfl, hp, hg, hh, ho, hlt⟩; rw [wst_nil] at hh; have HO := Lib.hid (One.mk (w0 := w) (And.intro (Nat.le_trans O1.out.size hp) (And.intro (Nat.le_trans O1.out.size hg) hlt)) hh (on_new O1.out ho)); clear hp hg hh ho hlt))
    go_loopw [20] (fun i wr => ∃ k : Nat, k ≤ n ∧ i = .int .i64 k ∧ One w wr p g (wst (cat (l.take k)))) (fun i _ => n - (intOf i).toNat)
    case atStart => exact ⟨0, Nat.zero_le _, rfl, HO.out⟩
    case round =>
      obtain ⟨k, hk, rfl, hone⟩ := hrel
      clear HO
      by_cases hlt : k < n
      · obtain ⟨bb, off, o, rfl, hb, hlk, hok, hr⟩ := HS.out.at_ hlt
        have hr' := range_only hr hone.only (by omega)
        have q0 : wr.cell? ⟨bb, off + k * 4, none⟩ = some (.int .i64 o.kind) := hr' 0 _ rfl
        have q1 : wr.cell? ⟨bb, off + k * 4 + 1, none⟩ = some (.int .i64 o.n) := hr' 1 _ rfl
        have q2 : wr.cell? ⟨bb, off + k * 4 + 2, none⟩ = some (.int .i64 o.width) := hr' 2 _ rfl
        have q3 : wr.cell? ⟨bb, off + k * 4 + 3, none⟩ = some (.slice o.B o.xs.length o.cB) := hr' 3 _ rfl
        have hk0 : (0 : Int) ≤ (k : Int) := Int.natCast_nonneg _
        have hk1 : (k : Int) < (n : Int) := by omega
        have HFar := Lib.hid (hok.far hone.lo.1 hone.lo.2.1)
        have HOk := Lib.hid hok
        have HP := Lib.hid hone
        have HSn := Lib.hid (cat_snoc l k o hlk)
        have HL := HB.out k (by omega)
        have HL2 := HB.out (k + 1) (by omega)
        rw [HSn.out, List.length_append] at HL2
        clear hr hr' hok hb hlk hone
        by_cases e0 : o.kind = 0
        · rw [e0] at q0
          by_cases hfit : fits o.n o.width = true
          · have HPi : Hid (piece o = le o.n.toNat o.width.toNat) := by show _ = _; rw [piece, if_pos e0, if_pos hfit]
            have HFt : Hid (∀ W : World, Calls Try.prog 20 #[.int .i64 o.n, .int .i64 o.width] W fun e w' => e = .returned (.bool true) ∧ W = w') := fun W => (rFits_c W o.n o.width HOk.out.n1.1 HOk.out.n1.2).mono fun e w' ⟨h, h'⟩ => ⟨by rw [h, hfit], h'⟩
            have Hfit := Lib.hid hfit
            have HLL : Hid ((cat (l.take k)).length + 8 ≤ 16384) := by show _ ≤ _; omega
            have HR0 := Lib.hid (Ond.new HP.out (.int .i64 0) o)
            clear e0 hfit HL HL2
            go_wp2_with (first | (go_at_call 20; refine (HFt.out _).mono ?_; rintro e w1 ⟨rfl, rfl⟩) | (go_at_call 11; refine (put_wst HR0.out.one.wr o Hfit.out HLL.out HOk.out.n1.1 HOk.out.n1.2).mono ?_; rintro e w2 ⟨rfl, hh, ho⟩; have HR1 := Lib.hid (HR0.out.wop ho hh); clear hh ho; obtain ⟨c10, c11, c12, c13⟩ := HR1.out.cells))
            refine ⟨⟨k + 1, by omega, by go_num, by rw [HSn.out, HPi.out]; exact HR1.out.one⟩, ?_⟩
            simp [intOf]
            omega
          · have HPi : Hid (piece o = []) := by show _ = _; rw [piece, if_pos e0, if_neg hfit]
            have HFt : Hid (∀ W : World, Calls Try.prog 20 #[.int .i64 o.n, .int .i64 o.width] W fun e w' => e = .returned (.bool false) ∧ W = w') := fun W => (rFits_c W o.n o.width HOk.out.n1.1 HOk.out.n1.2).mono fun e w' ⟨h, h'⟩ => ⟨by rw [h]; simpa using hfit, h'⟩
            have HR0 := Lib.hid (Ond.new HP.out (.int .i64 0) o)
            clear e0 hfit HL HL2
            go_wp2_with (first | (go_at_call 20; refine (HFt.out _).mono ?_; rintro e w1 ⟨rfl, rfl⟩))
            refine ⟨⟨k + 1, by omega, by go_num, by rw [HSn.out, HPi.out, List.append_nil]; exact HR0.out.one⟩, ?_⟩
            simp [intOf]
            omega
        · by_cases e1 : o.kind = 1
          · rw [e1] at q0
            have HPi : Hid (piece o = o.xs) := by show _ = _; rw [piece, if_neg e0, if_pos e1]
            have HLL : Hid ((cat (l.take k)).length + o.xs.length ≤ 16384) := by
              rw [HPi.out] at HL2
              show _ ≤ _
              omega
            have HR0 := Lib.hid (Ond.new HP.out (.int .i64 1) o)
            clear e0 e1 HL HL2
            go_wp2_with (first | (go_at_call 13; refine (bytes_wst HR0.out.one.wr _ (HOk.out.src' HR0.out.one.only) HFar.out HLL.out).mono ?_; rintro e w2 ⟨rfl, hh, ho⟩; have HR1 := Lib.hid (HR0.out.wop ho hh); clear hh ho))
            refine ⟨⟨k + 1, by omega, by go_num, by rw [HSn.out, HPi.out]; exact HR1.out.one⟩, ?_⟩
            simp [intOf]
            omega
          · have HPi : Hid (piece o = []) := by show _ = _; rw [piece, if_neg e0, if_neg e1]
            have z0 : (o.kind == 0) = false := by simpa using e0
            have z1 : (o.kind == 1) = false := by simpa using e1
            have HR0 := Lib.hid (Ond.new HP.out (.int .i64 o.kind) o)
            clear e0 e1 HL HL2
            go_wp2
            refine ⟨⟨k + 1, by omega, by go_num, by rw [HSn.out, HPi.out, List.append_nil]; exact HR0.out.one⟩, ?_⟩
            simp [intOf]
            omega
      · obtain rfl : k = n := by omega
        have hkm : ¬ (k : Int) < (k : Int) := by omega
        rw [List.take_of_length_le (by have := HS.out.1; omega)] at hone
        have HO := Lib.hid hone
        have HCl : Hid ((cat l).length ≤ 4800) := by
          have := HB.out k (Nat.le_refl _)
          rwa [List.take_of_length_le (by have := HS.out.1; omega)] at this
        have HWl : Hid ((wst (cat l)).b.length ≤ 1099511627776) := by
          have := HCl.out
          show ((cat l) ++ List.replicate (16384 - (cat l).length) 0).length ≤ _
          simp
          omega
        clear hone
        go_wp2_with (first | (go_at_call 17; refine (done_wst HO.out.wr).mono ?_; rintro e w3 ⟨v3, rfl, hs, ho⟩; have HD := Lib.hid (HO.out.later ho); have HS3 := Lib.hid hs; clear hs ho) | (go_at_call 21; refine (NewReader_c _ _ _ HS3.out HWl.out).mono ?_; rintro e w4 ⟨q, s, rfl, hq, hs, hh, ho, hlt⟩; have HT := Lib.hid (HD.out.two hq hs ho hh); clear hq hs hh ho hlt))
        have HT0 : Hid (Two w w4 p g q s (wst (cat l)) (rst (wst (cat l)).b 0)) := HT.out
        have HSp := Lib.hid (back_split l)
        have Hlen : Hid (l.length = k) := HS.out.1
        obtain ⟨b, hbb⟩ : ∃ b, b = (wst (cat l)).b := ⟨_, rfl⟩
        rw [← hbb] at HSp HT0
        clear hbb HT HD HS3 HWl HO HF O1 hlt hk hkm
        go_loopw [63] (fun i wr => ∃ j : Nat, j ≤ k ∧ i = .int .i64 j ∧ Two w wr p g q s (wst (cat l)) (rst b (cat (l.take j)).length)) (fun i _ => k - (intOf i).toNat)
        case atStart => exact ⟨0, Nat.zero_le _, rfl, HT0.out⟩
        case round =>
          obtain ⟨j, hj, rfl, htwo⟩ := hrel
          clear HT0
          by_cases hlt : j < k
          · obtain ⟨bb, off, o, rfl, hb, hlk, hok, hr⟩ := HS.out.at_ hlt
            have hr' := range_only hr htwo.only (by omega)
            have q0 : wr.cell? ⟨bb, off + j * 4, none⟩ = some (.int .i64 o.kind) := hr' 0 _ rfl
            have q1 : wr.cell? ⟨bb, off + j * 4 + 1, none⟩ = some (.int .i64 o.n) := hr' 1 _ rfl
            have q2 : wr.cell? ⟨bb, off + j * 4 + 2, none⟩ = some (.int .i64 o.width) := hr' 2 _ rfl
            have q3 : wr.cell? ⟨bb, off + j * 4 + 3, none⟩ = some (.slice o.B o.xs.length o.cB) := hr' 3 _ rfl
            have hk0 : (0 : Int) ≤ (j : Int) := Int.natCast_nonneg _
            have hk1 : (j : Int) < (k : Int) := by omega
            have HOk := Lib.hid hok
            have HP := Lib.hid htwo
            have HSn := Lib.hid (congrArg List.length (cat_snoc l j o hlk))
            obtain ⟨hle, R, hdr⟩ := HSp.out j o hlk
            have HLe := Lib.hid hle
            have HR0 := Lib.hid (Rnd.new htwo o)
            clear hr hr' hok hb hlk htwo hle
            go_wp2_with (fail)
            generalize hw0 : wr.alloc (.cells #[.int .i64 o.kind, .int .i64 o.n, .int .i64 o.width, .slice o.B o.xs.length o.cB] 32) = w00 at HR0 ⊢
            obtain ⟨c00, c01, c02, c03⟩ := HR0.out.cells
            clear hw0 q0 q1 q2 q3
            by_cases e0 : o.kind = 0
            · by_cases hfit : fits o.n o.width = true
              · have HPi : Hid (piece o = le o.n.toNat o.width.toNat) := by show _ = _; rw [piece, if_pos e0, if_pos hfit]
                have HFt : Hid (∀ W : World, Calls Try.prog 20 #[.int .i64 o.n, .int .i64 o.width] W fun e w' => e = .returned (.bool true) ∧ W = w') := fun W => (rFits_c W o.n o.width HOk.out.n1.1 HOk.out.n1.2).mono fun e w' ⟨h, h'⟩ => ⟨by rw [h, hfit], h'⟩
                have Hfit := Lib.hid hfit
                rw [HPi.out] at hdr
                have HDr := Lib.hid hdr
                rw [HPi.out] at HSn
                rw [e0] at c00
                have He0 := Lib.hid e0
                have d00 : ((0 : Int) == 0) = true := rfl
                have d01 : ((0 : Int) == 1) = false := rfl
                have dnn : (o.n != o.n) = false := by simp
                clear e0 hfit hdr
                refine wp_region_held_drew (S := (fun w' => w'.cell? ⟨wr.heap.size, 0, none⟩ = some (.int .i64 0) ∧ w'.cell? ⟨wr.heap.size, 1, none⟩ = some (.int .i64 o.n) ∧ w'.cell? ⟨wr.heap.size, 2, none⟩ = some (.int .i64 o.width) ∧ w'.cell? ⟨wr.heap.size, 3, none⟩ = some (.slice o.B o.xs.length o.cB))) (by kernel_rfl) (HR0.out.drew.cellsK He0.out) (fun hHeld => ?_)
                refine take_one (i := 0) (d := 67) (oi := ?_) (v := ?_) ?_ (by kernel_rfl) (by kernel_rfl) (by kernel_rfl) (fun _ _ _ h => h) ?_ ?_ ?_ (by assumption) ?_
                case refine_3 => (simp only [List.getElem?_toArray, List.getElem?_cons_succ, List.getElem?_cons_zero]; rfl)
                case refine_4 => rfl
                case refine_5 => rfl
                case refine_6 => (intro w' hSw; (try dsimp only at hSw); go_simp; (try with_reducible rfl))
                simp only [Act.put, List.setIfInBounds_toArray, List.set_cons_zero, List.set_cons_succ]
                refine take_one (i := 1) (d := 68) (oi := ?_) (v := ?_) ?_ (by kernel_rfl) (by kernel_rfl) (by kernel_rfl) (fun _ _ _ h => h) ?_ ?_ ?_ (by assumption) ?_
                case refine_3 => (simp only [List.getElem?_toArray, List.getElem?_cons_succ, List.getElem?_cons_zero]; rfl)
                case refine_4 => rfl
                case refine_5 => rfl
                case refine_6 => (intro w' hSw; (try dsimp only at hSw); go_simp; (try with_reducible rfl))
                simp only [Act.put, List.setIfInBounds_toArray, List.set_cons_zero, List.set_cons_succ]
                refine take_one (i := 2) (d := 69) (oi := ?_) (v := ?_) ?_ (by kernel_rfl) (by kernel_rfl) (by kernel_rfl) (fun _ _ _ h => h) ?_ ?_ ?_ (by assumption) ?_
                case refine_3 => (simp only [List.getElem?_toArray, List.getElem?_cons_succ, List.getElem?_cons_zero]; rfl)
                case refine_4 => rfl
                case refine_5 => rfl
                case refine_6 => (intro w' hSw; (try dsimp only at hSw); go_simp; (try with_reducible rfl))
                simp only [Act.put, List.setIfInBounds_toArray, List.set_cons_zero, List.set_cons_succ]
                refine take_one (i := 3) (d := 70) (oi := ?_) (v := ?_) ?_ (by kernel_rfl) (by kernel_rfl) (by kernel_rfl) (fun _ _ _ h => h) ?_ ?_ ?_ (by assumption) ?_
                case refine_3 => (simp only [List.getElem?_toArray, List.getElem?_cons_succ, List.getElem?_cons_zero]; rfl)
                case refine_4 => rfl
                case refine_5 => rfl
                case refine_6 => (intro w' hSw; (try dsimp only at hSw); go_simp; (try with_reducible rfl))
                simp only [Act.put, List.setIfInBounds_toArray, List.set_cons_zero, List.set_cons_succ]
                refine take_one (i := 4) (d := 71) (oi := ?_) (v := ?_) ?_ (by kernel_rfl) (by kernel_rfl) (by kernel_rfl) (fun _ _ _ h => h) ?_ ?_ ?_ (by assumption) ?_
                case refine_3 => (simp only [List.getElem?_toArray, List.getElem?_cons_succ, List.getElem?_cons_zero]; rfl)
                case refine_4 => rfl
                case refine_5 => rfl
                case refine_6 => (intro w' hSw; (try dsimp only at hSw); go_simp; (try with_reducible rfl))
                simp only [Act.put, List.setIfInBounds_toArray, List.set_cons_zero, List.set_cons_succ]
                refine take_one (i := 5) (d := 72) (oi := ?_) (v := ?_) ?_ (by kernel_rfl) (by kernel_rfl) (by kernel_rfl) (fun _ _ _ h => h) ?_ ?_ ?_ (by assumption) ?_
                case refine_3 => (simp only [List.getElem?_toArray, List.getElem?_cons_succ, List.getElem?_cons_zero]; rfl)
                case refine_4 => rfl
                case refine_5 => rfl
                case refine_6 => (intro w' hSw; (try dsimp only at hSw); go_simp; (try with_reducible rfl))
                simp only [Act.put, List.setIfInBounds_toArray, List.set_cons_zero, List.set_cons_succ]
                refine take_one (i := 6) (d := 73) (oi := ?_) (v := ?_) ?_ (by kernel_rfl) (by kernel_rfl) (by kernel_rfl) (fun _ _ _ h => h) ?_ ?_ ?_ (by assumption) ?_
                case refine_3 => (simp only [List.getElem?_toArray, List.getElem?_cons_succ, List.getElem?_cons_zero]; rfl)
                case refine_4 => rfl
                case refine_5 => rfl
                case refine_6 => (intro w' hSw; (try dsimp only at hSw); go_simp; (try with_reducible rfl))
                simp only [Act.put, List.setIfInBounds_toArray, List.set_cons_zero, List.set_cons_succ]
                refine take_one (i := 7) (d := 74) (oi := ?_) (v := ?_) ?_ (by kernel_rfl) (by kernel_rfl) (by kernel_rfl) (fun _ _ _ h => h) ?_ ?_ ?_ (by assumption) ?_
                case refine_3 => (simp only [List.getElem?_toArray, List.getElem?_cons_succ, List.getElem?_cons_zero]; rfl)
                case refine_4 => rfl
                case refine_5 => rfl
                case refine_6 => (intro w' hSw; (try dsimp only at hSw); go_simp; (try with_reducible rfl))
                simp only [Act.put, List.setIfInBounds_toArray, List.set_cons_zero, List.set_cons_succ]
                refine wpAnyH_ready (rs := [8]) (by kernel_rfl) (by simp) ?_
                refine AllReadyH.cons (o := ?_) ?_ (fun K hK => ?_) AllReadyH.nil
                case refine_2 => (simp only [List.getElem?_toArray, List.getElem?_cons_succ, List.getElem?_cons_zero]; rfl)
                go_simp
                (go_at_call 20; refine (HFt.out _).mono ?_; rintro e w1 ⟨rfl, rfl⟩)
                go_wp2_with (fail)
                refine hK.out _ _ (by assumption) (fun hHeld => ?_)
                clear hK K
                try simp only [Act.put, List.setIfInBounds_toArray, List.set_cons_zero, List.set_cons_succ]
                refine take_one (i := 9) (d := 76) (oi := ?_) (v := ?_) ?_ (by kernel_rfl) (by kernel_rfl) (by kernel_rfl) (fun _ _ _ h => h) ?_ ?_ ?_ (by assumption) ?_
                case refine_3 => (simp only [List.getElem?_toArray, List.getElem?_cons_succ, List.getElem?_cons_zero]; rfl)
                case refine_4 => rfl
                case refine_5 => rfl
                case refine_6 => (intro w' hSw; (try dsimp only at hSw); go_simp; (try with_reducible rfl))
                simp only [Act.put, List.setIfInBounds_toArray, List.set_cons_zero, List.set_cons_succ]
                refine take_one (i := 10) (d := 77) (oi := ?_) (v := ?_) ?_ (by kernel_rfl) (by kernel_rfl) (by kernel_rfl) (fun _ _ _ h => h) ?_ ?_ ?_ (by assumption) ?_
                case refine_3 => (simp only [List.getElem?_toArray, List.getElem?_cons_succ, List.getElem?_cons_zero]; rfl)
                case refine_4 => rfl
                case refine_5 => rfl
                case refine_6 => (intro w' hSw; (try dsimp only at hSw); go_simp; (try with_reducible rfl))
                simp only [Act.put, List.setIfInBounds_toArray, List.set_cons_zero, List.set_cons_succ]
                refine take_one (i := 11) (d := 78) (oi := ?_) (v := ?_) ?_ (by kernel_rfl) (by kernel_rfl) (by kernel_rfl) (fun _ _ _ h => h) ?_ ?_ ?_ (by assumption) ?_
                case refine_3 => (simp only [List.getElem?_toArray, List.getElem?_cons_succ, List.getElem?_cons_zero]; rfl)
                case refine_4 => rfl
                case refine_5 => rfl
                case refine_6 => (intro w' hSw; (try dsimp only at hSw); go_simp; (try with_reducible rfl))
                simp only [Act.put, List.setIfInBounds_toArray, List.set_cons_zero, List.set_cons_succ]
                refine take_one (i := 12) (d := 79) (oi := ?_) (v := ?_) ?_ (by kernel_rfl) (by kernel_rfl) (by kernel_rfl) (fun _ _ _ h => h) ?_ ?_ ?_ (by assumption) ?_
                case refine_3 => (simp only [List.getElem?_toArray, List.getElem?_cons_succ, List.getElem?_cons_zero]; rfl)
                case refine_4 => rfl
                case refine_5 => rfl
                case refine_6 => (intro w' hSw; (try dsimp only at hSw); go_simp; (try with_reducible rfl))
                simp only [Act.put, List.setIfInBounds_toArray, List.set_cons_zero, List.set_cons_succ]
                refine take_one (i := 13) (d := 80) (oi := ?_) (v := ?_) ?_ (by kernel_rfl) (by kernel_rfl) (by kernel_rfl) (fun _ _ _ h => h) ?_ ?_ ?_ (by assumption) ?_
                case refine_3 => (simp only [List.getElem?_toArray, List.getElem?_cons_succ, List.getElem?_cons_zero]; rfl)
                case refine_4 => rfl
                case refine_5 => rfl
                case refine_6 => (intro w' hSw; (try dsimp only at hSw); go_simp; (try with_reducible rfl))
                simp only [Act.put, List.setIfInBounds_toArray, List.set_cons_zero, List.set_cons_succ]
                refine take_one (i := 15) (d := 82) (oi := ?_) (v := ?_) ?_ (by kernel_rfl) (by kernel_rfl) (by kernel_rfl) (fun _ _ _ h => h) ?_ ?_ ?_ (by assumption) ?_
                case refine_3 => (simp only [List.getElem?_toArray, List.getElem?_cons_succ, List.getElem?_cons_zero]; rfl)
                case refine_4 => rfl
                case refine_5 => rfl
                case refine_6 => (intro w' hSw; (try dsimp only at hSw); go_simp; (try with_reducible rfl))
                simp only [Act.put, List.setIfInBounds_toArray, List.set_cons_zero, List.set_cons_succ]
                refine take_one (i := 16) (d := 83) (oi := ?_) (v := ?_) ?_ (by kernel_rfl) (by kernel_rfl) (by kernel_rfl) (fun _ _ _ h => h) ?_ ?_ ?_ (by assumption) ?_
                case refine_3 => (simp only [List.getElem?_toArray, List.getElem?_cons_succ, List.getElem?_cons_zero]; rfl)
                case refine_4 => rfl
                case refine_5 => rfl
                case refine_6 => (intro w' hSw; (try dsimp only at hSw); go_simp; (try with_reducible rfl))
                simp only [Act.put, List.setIfInBounds_toArray, List.set_cons_zero, List.set_cons_succ]
                refine wpAnyH_ready (rs := [14]) (by kernel_rfl) (by simp) ?_
                refine AllReadyH.cons (o := ?_) ?_ (fun K hK => ?_) AllReadyH.nil
                case refine_2 => (simp only [List.getElem?_toArray, List.getElem?_cons_succ, List.getElem?_cons_zero]; rfl)
                go_simp
                (go_at_call 22; refine (get_rst HR0.out.drew.two.rd o HLe.out Hfit.out HOk.out.n1.2 HDr.out).mono ?_; rintro e w6 ⟨rfl, hh, ho⟩; have HR6 := Lib.hid (HR0.out.drew.qop ho hh); clear hh ho)
                go_wp2_with (fail)
                refine hK.out _ _ (HR6.out.cellsK He0.out) (fun hHeld => ?_)
                clear hK K
                try simp only [Act.put, List.setIfInBounds_toArray, List.set_cons_zero, List.set_cons_succ]
                refine take_one (i := 17) (d := 84) (oi := ?_) (v := ?_) ?_ (by kernel_rfl) (by kernel_rfl) (by kernel_rfl) (fun _ _ _ h => h) ?_ ?_ ?_ (by assumption) ?_
                case refine_3 => (simp only [List.getElem?_toArray, List.getElem?_cons_succ, List.getElem?_cons_zero]; rfl)
                case refine_4 => rfl
                case refine_5 => rfl
                case refine_6 => (intro w' hSw; (try dsimp only at hSw); go_simp; (try with_reducible rfl))
                simp only [Act.put, List.setIfInBounds_toArray, List.set_cons_zero, List.set_cons_succ]
                refine take_one (i := 18) (d := 85) (oi := ?_) (v := ?_) ?_ (by kernel_rfl) (by kernel_rfl) (by kernel_rfl) (fun _ _ _ h => h) ?_ ?_ ?_ (by assumption) ?_
                case refine_3 => (simp only [List.getElem?_toArray, List.getElem?_cons_succ, List.getElem?_cons_zero]; rfl)
                case refine_4 => rfl
                case refine_5 => rfl
                case refine_6 => (intro w' hSw; (try dsimp only at hSw); go_simp; (try with_reducible rfl))
                simp only [Act.put, List.setIfInBounds_toArray, List.set_cons_zero, List.set_cons_succ]
                refine take_one (i := 19) (d := 86) (oi := ?_) (v := ?_) ?_ (by kernel_rfl) (by kernel_rfl) (by kernel_rfl) (fun _ _ _ h => h) ?_ ?_ ?_ (by assumption) ?_
                case refine_3 => (simp only [List.getElem?_toArray, List.getElem?_cons_succ, List.getElem?_cons_zero]; rfl)
                case refine_4 => rfl
                case refine_5 => rfl
                case refine_6 => (intro w' hSw; (try dsimp only at hSw); go_simp; (try with_reducible rfl))
                simp only [Act.put, List.setIfInBounds_toArray, List.set_cons_zero, List.set_cons_succ]
                refine take_one (i := 20) (d := 87) (oi := ?_) (v := ?_) ?_ (by kernel_rfl) (by kernel_rfl) (by kernel_rfl) (fun _ _ _ h => h) ?_ ?_ ?_ (by assumption) ?_
                case refine_3 => (simp only [List.getElem?_toArray, List.getElem?_cons_succ, List.getElem?_cons_zero]; rfl)
                case refine_4 => rfl
                case refine_5 => rfl
                case refine_6 => (intro w' hSw; (try dsimp only at hSw); go_simp; (try with_reducible rfl))
                simp only [Act.put, List.setIfInBounds_toArray, List.set_cons_zero, List.set_cons_succ]
                refine take_one (i := 21) (d := 88) (oi := ?_) (v := ?_) ?_ (by kernel_rfl) (by kernel_rfl) (by kernel_rfl) (fun _ _ _ h => h) ?_ ?_ ?_ (by assumption) ?_
                case refine_3 => (simp only [List.getElem?_toArray, List.getElem?_cons_succ, List.getElem?_cons_zero]; rfl)
                case refine_4 => rfl
                case refine_5 => rfl
                case refine_6 => (intro w' hSw; (try dsimp only at hSw); go_simp; (try with_reducible rfl))
                simp only [Act.put, List.setIfInBounds_toArray, List.set_cons_zero, List.set_cons_succ]
                refine take_one (i := 22) (d := 89) (oi := ?_) (v := ?_) ?_ (by kernel_rfl) (by kernel_rfl) (by kernel_rfl) (fun _ _ _ h => h) ?_ ?_ ?_ (by assumption) ?_
                case refine_3 => (simp only [List.getElem?_toArray, List.getElem?_cons_succ, List.getElem?_cons_zero]; rfl)
                case refine_4 => rfl
                case refine_5 => rfl
                case refine_6 => (intro w' hSw; (try dsimp only at hSw); go_simp; (try with_reducible rfl))
                simp only [Act.put, List.setIfInBounds_toArray, List.set_cons_zero, List.set_cons_succ]
                refine take_one (i := 23) (d := 90) (oi := ?_) (v := ?_) ?_ (by kernel_rfl) (by kernel_rfl) (by kernel_rfl) (fun _ _ _ h => h) ?_ ?_ ?_ (by assumption) ?_
                case refine_3 => (simp only [List.getElem?_toArray, List.getElem?_cons_succ, List.getElem?_cons_zero]; rfl)
                case refine_4 => rfl
                case refine_5 => rfl
                case refine_6 => (intro w' hSw; (try dsimp only at hSw); go_simp; (try with_reducible rfl))
                simp only [Act.put, List.setIfInBounds_toArray, List.set_cons_zero, List.set_cons_succ]
                refine take_skip (i := 24) (d := 91) (oi := ?_) ?_ (by kernel_rfl) (by kernel_rfl) (by kernel_rfl) (fun _ _ _ h => h) ?_ ?_ (by assumption) ?_
                case refine_2 => (simp only [List.getElem?_toArray, List.getElem?_cons_succ, List.getElem?_cons_zero]; rfl)
                case refine_3 => rfl
                case refine_4 => rfl
                simp only [Act.put, List.setIfInBounds_toArray, List.set_cons_zero, List.set_cons_succ]
                refine take_skip (i := 25) (d := 92) (oi := ?_) ?_ (by kernel_rfl) (by kernel_rfl) (by kernel_rfl) (fun _ _ _ h => h) ?_ ?_ (by assumption) ?_
                case refine_2 => (simp only [List.getElem?_toArray, List.getElem?_cons_succ, List.getElem?_cons_zero]; rfl)
                case refine_3 => rfl
                case refine_4 => rfl
                simp only [Act.put, List.setIfInBounds_toArray, List.set_cons_zero, List.set_cons_succ]
                refine take_skip (i := 26) (d := 93) (oi := ?_) ?_ (by kernel_rfl) (by kernel_rfl) (by kernel_rfl) (fun _ _ _ h => h) ?_ ?_ (by assumption) ?_
                case refine_2 => (simp only [List.getElem?_toArray, List.getElem?_cons_succ, List.getElem?_cons_zero]; rfl)
                case refine_3 => rfl
                case refine_4 => rfl
                simp only [Act.put, List.setIfInBounds_toArray, List.set_cons_zero, List.set_cons_succ]
                refine take_skip (i := 27) (d := 94) (oi := ?_) ?_ (by kernel_rfl) (by kernel_rfl) (by kernel_rfl) (fun _ _ _ h => h) ?_ ?_ (by assumption) ?_
                case refine_2 => (simp only [List.getElem?_toArray, List.getElem?_cons_succ, List.getElem?_cons_zero]; rfl)
                case refine_3 => rfl
                case refine_4 => rfl
                simp only [Act.put, List.setIfInBounds_toArray, List.set_cons_zero, List.set_cons_succ]
                refine take_skip (i := 28) (d := 95) (oi := ?_) ?_ (by kernel_rfl) (by kernel_rfl) (by kernel_rfl) (fun _ _ _ h => h) ?_ ?_ (by assumption) ?_
                case refine_2 => (simp only [List.getElem?_toArray, List.getElem?_cons_succ, List.getElem?_cons_zero]; rfl)
                case refine_3 => rfl
                case refine_4 => rfl
                simp only [Act.put, List.setIfInBounds_toArray, List.set_cons_zero, List.set_cons_succ]
                refine take_skip (i := 29) (d := 96) (oi := ?_) ?_ (by kernel_rfl) (by kernel_rfl) (by kernel_rfl) (fun _ _ _ h => h) ?_ ?_ (by assumption) ?_
                case refine_2 => (simp only [List.getElem?_toArray, List.getElem?_cons_succ, List.getElem?_cons_zero]; rfl)
                case refine_3 => rfl
                case refine_4 => rfl
                simp only [Act.put, List.setIfInBounds_toArray, List.set_cons_zero, List.set_cons_succ]
                refine take_skip (i := 30) (d := 97) (oi := ?_) ?_ (by kernel_rfl) (by kernel_rfl) (by kernel_rfl) (fun _ _ _ h => h) ?_ ?_ (by assumption) ?_
                case refine_2 => (simp only [List.getElem?_toArray, List.getElem?_cons_succ, List.getElem?_cons_zero]; rfl)
                case refine_3 => rfl
                case refine_4 => rfl
                simp only [Act.put, List.setIfInBounds_toArray, List.set_cons_zero, List.set_cons_succ]
                refine take_skip (i := 31) (d := 98) (oi := ?_) ?_ (by kernel_rfl) (by kernel_rfl) (by kernel_rfl) (fun _ _ _ h => h) ?_ ?_ (by assumption) ?_
                case refine_2 => (simp only [List.getElem?_toArray, List.getElem?_cons_succ, List.getElem?_cons_zero]; rfl)
                case refine_3 => rfl
                case refine_4 => rfl
                simp only [Act.put, List.setIfInBounds_toArray, List.set_cons_zero, List.set_cons_succ]
                refine take_skip (i := 32) (d := 99) (oi := ?_) ?_ (by kernel_rfl) (by kernel_rfl) (by kernel_rfl) (fun _ _ _ h => h) ?_ ?_ (by assumption) ?_
                case refine_2 => (simp only [List.getElem?_toArray, List.getElem?_cons_succ, List.getElem?_cons_zero]; rfl)
                case refine_3 => rfl
                case refine_4 => rfl
                simp only [Act.put, List.setIfInBounds_toArray, List.set_cons_zero, List.set_cons_succ]
                refine take_one (i := 33) (d := 100) (oi := ?_) (v := ?_) ?_ (by kernel_rfl) (by kernel_rfl) (by kernel_rfl) (fun _ _ _ h => h) ?_ ?_ ?_ (by assumption) ?_
                case refine_3 => (simp only [List.getElem?_toArray, List.getElem?_cons_succ, List.getElem?_cons_zero]; rfl)
                case refine_4 => rfl
                case refine_5 => rfl
                case refine_6 => (intro w' hSw; (try dsimp only at hSw); go_simp; (try with_reducible rfl))
                simp only [Act.put, List.setIfInBounds_toArray, List.set_cons_zero, List.set_cons_succ]
                refine take_one (i := 34) (d := 101) (oi := ?_) (v := ?_) ?_ (by kernel_rfl) (by kernel_rfl) (by kernel_rfl) (fun _ _ _ h => h) ?_ ?_ ?_ (by assumption) ?_
                case refine_3 => (simp only [List.getElem?_toArray, List.getElem?_cons_succ, List.getElem?_cons_zero]; rfl)
                case refine_4 => rfl
                case refine_5 => rfl
                case refine_6 => (intro w' hSw; (try dsimp only at hSw); go_simp; (try with_reducible rfl))
                simp only [Act.put, List.setIfInBounds_toArray, List.set_cons_zero, List.set_cons_succ]
                refine wpAnyH_done (by kernel_rfl) ?_ _
                go_wp2
                refine ⟨⟨j + 1, by omega, by go_num, by rw [HSn.out, List.length_append]; exact HR6.out.two⟩, ?_⟩
                simp [intOf]
                omega
              · have HPi : Hid (piece o = []) := by show _ = _; rw [piece, if_pos e0, if_neg hfit]
                have HFt : Hid (∀ m : Nat, Calls Try.prog 20 #[.int .i64 o.n, .int .i64 o.width] (w00.drewN m) fun e w' => e = .returned (.bool false) ∧ w' = w00.drewN m) := fun m => (rFits_c (w00.drewN m) o.n o.width HOk.out.n1.1 HOk.out.n1.2).mono fun e w' ⟨h, h'⟩ => ⟨by rw [h]; simpa using hfit, h'.symm⟩
                rw [HPi.out] at HSn
                rw [e0] at c00
                clear e0 hfit hdr
                go_quiet ((go_at_call 20; exact Calls.quiet_of_same (HFt.out _)))
                go_wp2
                refine ⟨⟨j + 1, by omega, by go_num, by rw [HSn.out, List.append_nil]; exact (HR0.out.drewN _).two⟩, ?_⟩
                simp [intOf]
                omega
            · by_cases e1 : o.kind = 1
              · have HPi : Hid (piece o = o.xs) := by show _ = _; rw [piece, if_neg e0, if_pos e1]
                rw [HPi.out] at hdr
                have HDr := Lib.hid hdr
                rw [HPi.out] at HSn
                rw [e1] at c00
                have He1 := Lib.hid e1
                have d10 : ((1 : Int) == 0) = false := rfl
                have d11 : ((1 : Int) == 1) = true := rfl
                have dxx : (decide (o.xs = o.xs)) = true := by simp
                clear e0 e1 hdr
                refine wp_region_held_drew (S := (fun w' => w'.cell? ⟨wr.heap.size, 0, none⟩ = some (.int .i64 1) ∧ w'.cell? ⟨wr.heap.size, 1, none⟩ = some (.int .i64 o.n) ∧ w'.cell? ⟨wr.heap.size, 2, none⟩ = some (.int .i64 o.width) ∧ w'.cell? ⟨wr.heap.size, 3, none⟩ = some (.slice o.B o.xs.length o.cB))) (by kernel_rfl) (HR0.out.drew.cellsK He1.out) (fun hHeld => ?_)
                refine take_one (i := 0) (d := 67) (oi := ?_) (v := ?_) ?_ (by kernel_rfl) (by kernel_rfl) (by kernel_rfl) (fun _ _ _ h => h) ?_ ?_ ?_ (by assumption) ?_
                case refine_3 => (simp only [List.getElem?_toArray, List.getElem?_cons_succ, List.getElem?_cons_zero]; rfl)
                case refine_4 => rfl
                case refine_5 => rfl
                case refine_6 => (intro w' hSw; (try dsimp only at hSw); go_simp; (try with_reducible rfl))
                simp only [Act.put, List.setIfInBounds_toArray, List.set_cons_zero, List.set_cons_succ]
                refine take_one (i := 1) (d := 68) (oi := ?_) (v := ?_) ?_ (by kernel_rfl) (by kernel_rfl) (by kernel_rfl) (fun _ _ _ h => h) ?_ ?_ ?_ (by assumption) ?_
                case refine_3 => (simp only [List.getElem?_toArray, List.getElem?_cons_succ, List.getElem?_cons_zero]; rfl)
                case refine_4 => rfl
                case refine_5 => rfl
                case refine_6 => (intro w' hSw; (try dsimp only at hSw); go_simp; (try with_reducible rfl))
                simp only [Act.put, List.setIfInBounds_toArray, List.set_cons_zero, List.set_cons_succ]
                refine take_one (i := 2) (d := 69) (oi := ?_) (v := ?_) ?_ (by kernel_rfl) (by kernel_rfl) (by kernel_rfl) (fun _ _ _ h => h) ?_ ?_ ?_ (by assumption) ?_
                case refine_3 => (simp only [List.getElem?_toArray, List.getElem?_cons_succ, List.getElem?_cons_zero]; rfl)
                case refine_4 => rfl
                case refine_5 => rfl
                case refine_6 => (intro w' hSw; (try dsimp only at hSw); go_simp; (try with_reducible rfl))
                simp only [Act.put, List.setIfInBounds_toArray, List.set_cons_zero, List.set_cons_succ]
                refine take_one (i := 3) (d := 70) (oi := ?_) (v := ?_) ?_ (by kernel_rfl) (by kernel_rfl) (by kernel_rfl) (fun _ _ _ h => h) ?_ ?_ ?_ (by assumption) ?_
                case refine_3 => (simp only [List.getElem?_toArray, List.getElem?_cons_succ, List.getElem?_cons_zero]; rfl)
                case refine_4 => rfl
                case refine_5 => rfl
                case refine_6 => (intro w' hSw; (try dsimp only at hSw); go_simp; (try with_reducible rfl))
                simp only [Act.put, List.setIfInBounds_toArray, List.set_cons_zero, List.set_cons_succ]
                refine take_skip (i := 4) (d := 71) (oi := ?_) ?_ (by kernel_rfl) (by kernel_rfl) (by kernel_rfl) (fun _ _ _ h => h) ?_ ?_ (by assumption) ?_
                case refine_2 => (simp only [List.getElem?_toArray, List.getElem?_cons_succ, List.getElem?_cons_zero]; rfl)
                case refine_3 => rfl
                case refine_4 => rfl
                simp only [Act.put, List.setIfInBounds_toArray, List.set_cons_zero, List.set_cons_succ]
                refine take_skip (i := 5) (d := 72) (oi := ?_) ?_ (by kernel_rfl) (by kernel_rfl) (by kernel_rfl) (fun _ _ _ h => h) ?_ ?_ (by assumption) ?_
                case refine_2 => (simp only [List.getElem?_toArray, List.getElem?_cons_succ, List.getElem?_cons_zero]; rfl)
                case refine_3 => rfl
                case refine_4 => rfl
                simp only [Act.put, List.setIfInBounds_toArray, List.set_cons_zero, List.set_cons_succ]
                refine take_skip (i := 6) (d := 73) (oi := ?_) ?_ (by kernel_rfl) (by kernel_rfl) (by kernel_rfl) (fun _ _ _ h => h) ?_ ?_ (by assumption) ?_
                case refine_2 => (simp only [List.getElem?_toArray, List.getElem?_cons_succ, List.getElem?_cons_zero]; rfl)
                case refine_3 => rfl
                case refine_4 => rfl
                simp only [Act.put, List.setIfInBounds_toArray, List.set_cons_zero, List.set_cons_succ]
                refine take_skip (i := 7) (d := 74) (oi := ?_) ?_ (by kernel_rfl) (by kernel_rfl) (by kernel_rfl) (fun _ _ _ h => h) ?_ ?_ (by assumption) ?_
                case refine_2 => (simp only [List.getElem?_toArray, List.getElem?_cons_succ, List.getElem?_cons_zero]; rfl)
                case refine_3 => rfl
                case refine_4 => rfl
                simp only [Act.put, List.setIfInBounds_toArray, List.set_cons_zero, List.set_cons_succ]
                refine take_skip (i := 8) (d := 75) (oi := ?_) ?_ (by kernel_rfl) (by kernel_rfl) (by kernel_rfl) (fun _ _ _ h => h) ?_ ?_ (by assumption) ?_
                case refine_2 => (simp only [List.getElem?_toArray, List.getElem?_cons_succ, List.getElem?_cons_zero]; rfl)
                case refine_3 => rfl
                case refine_4 => rfl
                simp only [Act.put, List.setIfInBounds_toArray, List.set_cons_zero, List.set_cons_succ]
                refine take_one (i := 9) (d := 76) (oi := ?_) (v := ?_) ?_ (by kernel_rfl) (by kernel_rfl) (by kernel_rfl) (fun _ _ _ h => h) ?_ ?_ ?_ (by assumption) ?_
                case refine_3 => (simp only [List.getElem?_toArray, List.getElem?_cons_succ, List.getElem?_cons_zero]; rfl)
                case refine_4 => rfl
                case refine_5 => rfl
                case refine_6 => (intro w' hSw; (try dsimp only at hSw); go_simp; (try with_reducible rfl))
                simp only [Act.put, List.setIfInBounds_toArray, List.set_cons_zero, List.set_cons_succ]
                refine take_one (i := 10) (d := 77) (oi := ?_) (v := ?_) ?_ (by kernel_rfl) (by kernel_rfl) (by kernel_rfl) (fun _ _ _ h => h) ?_ ?_ ?_ (by assumption) ?_
                case refine_3 => (simp only [List.getElem?_toArray, List.getElem?_cons_succ, List.getElem?_cons_zero]; rfl)
                case refine_4 => rfl
                case refine_5 => rfl
                case refine_6 => (intro w' hSw; (try dsimp only at hSw); go_simp; (try with_reducible rfl))
                simp only [Act.put, List.setIfInBounds_toArray, List.set_cons_zero, List.set_cons_succ]
                refine take_skip (i := 11) (d := 78) (oi := ?_) ?_ (by kernel_rfl) (by kernel_rfl) (by kernel_rfl) (fun _ _ _ h => h) ?_ ?_ (by assumption) ?_
                case refine_2 => (simp only [List.getElem?_toArray, List.getElem?_cons_succ, List.getElem?_cons_zero]; rfl)
                case refine_3 => rfl
                case refine_4 => rfl
                simp only [Act.put, List.setIfInBounds_toArray, List.set_cons_zero, List.set_cons_succ]
                refine take_skip (i := 12) (d := 79) (oi := ?_) ?_ (by kernel_rfl) (by kernel_rfl) (by kernel_rfl) (fun _ _ _ h => h) ?_ ?_ (by assumption) ?_
                case refine_2 => (simp only [List.getElem?_toArray, List.getElem?_cons_succ, List.getElem?_cons_zero]; rfl)
                case refine_3 => rfl
                case refine_4 => rfl
                simp only [Act.put, List.setIfInBounds_toArray, List.set_cons_zero, List.set_cons_succ]
                refine take_skip (i := 13) (d := 80) (oi := ?_) ?_ (by kernel_rfl) (by kernel_rfl) (by kernel_rfl) (fun _ _ _ h => h) ?_ ?_ (by assumption) ?_
                case refine_2 => (simp only [List.getElem?_toArray, List.getElem?_cons_succ, List.getElem?_cons_zero]; rfl)
                case refine_3 => rfl
                case refine_4 => rfl
                simp only [Act.put, List.setIfInBounds_toArray, List.set_cons_zero, List.set_cons_succ]
                refine take_skip (i := 14) (d := 81) (oi := ?_) ?_ (by kernel_rfl) (by kernel_rfl) (by kernel_rfl) (fun _ _ _ h => h) ?_ ?_ (by assumption) ?_
                case refine_2 => (simp only [List.getElem?_toArray, List.getElem?_cons_succ, List.getElem?_cons_zero]; rfl)
                case refine_3 => rfl
                case refine_4 => rfl
                simp only [Act.put, List.setIfInBounds_toArray, List.set_cons_zero, List.set_cons_succ]
                refine take_skip (i := 15) (d := 82) (oi := ?_) ?_ (by kernel_rfl) (by kernel_rfl) (by kernel_rfl) (fun _ _ _ h => h) ?_ ?_ (by assumption) ?_
                case refine_2 => (simp only [List.getElem?_toArray, List.getElem?_cons_succ, List.getElem?_cons_zero]; rfl)
                case refine_3 => rfl
                case refine_4 => rfl
                simp only [Act.put, List.setIfInBounds_toArray, List.set_cons_zero, List.set_cons_succ]
                refine take_skip (i := 16) (d := 83) (oi := ?_) ?_ (by kernel_rfl) (by kernel_rfl) (by kernel_rfl) (fun _ _ _ h => h) ?_ ?_ (by assumption) ?_
                case refine_2 => (simp only [List.getElem?_toArray, List.getElem?_cons_succ, List.getElem?_cons_zero]; rfl)
                case refine_3 => rfl
                case refine_4 => rfl
                simp only [Act.put, List.setIfInBounds_toArray, List.set_cons_zero, List.set_cons_succ]
                refine take_skip (i := 17) (d := 84) (oi := ?_) ?_ (by kernel_rfl) (by kernel_rfl) (by kernel_rfl) (fun _ _ _ h => h) ?_ ?_ (by assumption) ?_
                case refine_2 => (simp only [List.getElem?_toArray, List.getElem?_cons_succ, List.getElem?_cons_zero]; rfl)
                case refine_3 => rfl
                case refine_4 => rfl
                simp only [Act.put, List.setIfInBounds_toArray, List.set_cons_zero, List.set_cons_succ]
                refine take_one (i := 18) (d := 85) (oi := ?_) (v := ?_) ?_ (by kernel_rfl) (by kernel_rfl) (by kernel_rfl) (fun _ _ _ h => h) ?_ ?_ ?_ (by assumption) ?_
                case refine_3 => (simp only [List.getElem?_toArray, List.getElem?_cons_succ, List.getElem?_cons_zero]; rfl)
                case refine_4 => rfl
                case refine_5 => rfl
                case refine_6 => (intro w' hSw; (try dsimp only at hSw); go_simp; (try with_reducible rfl))
                simp only [Act.put, List.setIfInBounds_toArray, List.set_cons_zero, List.set_cons_succ]
                refine take_one (i := 19) (d := 86) (oi := ?_) (v := ?_) ?_ (by kernel_rfl) (by kernel_rfl) (by kernel_rfl) (fun _ _ _ h => h) ?_ ?_ ?_ (by assumption) ?_
                case refine_3 => (simp only [List.getElem?_toArray, List.getElem?_cons_succ, List.getElem?_cons_zero]; rfl)
                case refine_4 => rfl
                case refine_5 => rfl
                case refine_6 => (intro w' hSw; (try dsimp only at hSw); go_simp; (try with_reducible rfl))
                simp only [Act.put, List.setIfInBounds_toArray, List.set_cons_zero, List.set_cons_succ]
                refine take_one (i := 20) (d := 87) (oi := ?_) (v := ?_) ?_ (by kernel_rfl) (by kernel_rfl) (by kernel_rfl) (fun _ _ _ h => h) ?_ ?_ ?_ (by assumption) ?_
                case refine_3 => (simp only [List.getElem?_toArray, List.getElem?_cons_succ, List.getElem?_cons_zero]; rfl)
                case refine_4 => rfl
                case refine_5 => rfl
                case refine_6 => (intro w' hSw; (try dsimp only at hSw); go_simp; (try with_reducible rfl))
                simp only [Act.put, List.setIfInBounds_toArray, List.set_cons_zero, List.set_cons_succ]
                refine take_one (i := 21) (d := 88) (oi := ?_) (v := ?_) ?_ (by kernel_rfl) (by kernel_rfl) (by kernel_rfl) (fun _ _ _ h => h) ?_ ?_ ?_ (by assumption) ?_
                case refine_3 => (simp only [List.getElem?_toArray, List.getElem?_cons_succ, List.getElem?_cons_zero]; rfl)
                case refine_4 => rfl
                case refine_5 => rfl
                case refine_6 => (intro w' hSw; (try dsimp only at hSw); go_simp; (try with_reducible rfl))
                simp only [Act.put, List.setIfInBounds_toArray, List.set_cons_zero, List.set_cons_succ]
                refine take_one (i := 22) (d := 89) (oi := ?_) (v := ?_) ?_ (by kernel_rfl) (by kernel_rfl) (by kernel_rfl) (fun _ _ _ h => h) ?_ ?_ ?_ (by assumption) ?_
                case refine_3 => (simp only [List.getElem?_toArray, List.getElem?_cons_succ, List.getElem?_cons_zero]; rfl)
                case refine_4 => rfl
                case refine_5 => rfl
                case refine_6 => (intro w' hSw; (try dsimp only at hSw); go_simp; (try with_reducible rfl))
                simp only [Act.put, List.setIfInBounds_toArray, List.set_cons_zero, List.set_cons_succ]
                refine take_one (i := 23) (d := 90) (oi := ?_) (v := ?_) ?_ (by kernel_rfl) (by kernel_rfl) (by kernel_rfl) (fun _ _ _ h => h) ?_ ?_ ?_ (by assumption) ?_
                case refine_3 => (simp only [List.getElem?_toArray, List.getElem?_cons_succ, List.getElem?_cons_zero]; rfl)
                case refine_4 => rfl
                case refine_5 => rfl
                case refine_6 => (intro w' hSw; (try dsimp only at hSw); go_simp; (try with_reducible rfl))
                simp only [Act.put, List.setIfInBounds_toArray, List.set_cons_zero, List.set_cons_succ]
                refine take_one (i := 24) (d := 91) (oi := ?_) (v := ?_) ?_ (by kernel_rfl) (by kernel_rfl) (by kernel_rfl) (fun _ _ _ h => h) ?_ ?_ ?_ (by assumption) ?_
                case refine_3 => (simp only [List.getElem?_toArray, List.getElem?_cons_succ, List.getElem?_cons_zero]; rfl)
                case refine_4 => rfl
                case refine_5 => rfl
                case refine_6 => (intro w' hSw; (try dsimp only at hSw); go_simp; (try with_reducible rfl))
                simp only [Act.put, List.setIfInBounds_toArray, List.set_cons_zero, List.set_cons_succ]
                refine take_one (i := 25) (d := 92) (oi := ?_) (v := ?_) ?_ (by kernel_rfl) (by kernel_rfl) (by kernel_rfl) (fun _ _ _ h => h) ?_ ?_ ?_ (by assumption) ?_
                case refine_3 => (simp only [List.getElem?_toArray, List.getElem?_cons_succ, List.getElem?_cons_zero]; rfl)
                case refine_4 => rfl
                case refine_5 => rfl
                case refine_6 => (intro w' hSw; (try dsimp only at hSw); go_simp; (try with_reducible rfl))
                simp only [Act.put, List.setIfInBounds_toArray, List.set_cons_zero, List.set_cons_succ]
                refine take_one (i := 26) (d := 93) (oi := ?_) (v := ?_) ?_ (by kernel_rfl) (by kernel_rfl) (by kernel_rfl) (fun _ _ _ h => h) ?_ ?_ ?_ (by assumption) ?_
                case refine_3 => (simp only [List.getElem?_toArray, List.getElem?_cons_succ, List.getElem?_cons_zero]; rfl)
                case refine_4 => rfl
                case refine_5 => rfl
                case refine_6 => (intro w' hSw; (try dsimp only at hSw); go_simp; (try with_reducible rfl))
                simp only [Act.put, List.setIfInBounds_toArray, List.set_cons_zero, List.set_cons_succ]
                refine take_one (i := 27) (d := 94) (oi := ?_) (v := ?_) ?_ (by kernel_rfl) (by kernel_rfl) (by kernel_rfl) (fun _ _ _ h => h) ?_ ?_ ?_ (by assumption) ?_
                case refine_3 => (simp only [List.getElem?_toArray, List.getElem?_cons_succ, List.getElem?_cons_zero]; rfl)
                case refine_4 => rfl
                case refine_5 => rfl
                case refine_6 => (intro w' hSw; (try dsimp only at hSw); go_simp; (try with_reducible rfl))
                simp only [Act.put, List.setIfInBounds_toArray, List.set_cons_zero, List.set_cons_succ]
                refine take_one (i := 29) (d := 96) (oi := ?_) (v := ?_) ?_ (by kernel_rfl) (by kernel_rfl) (by kernel_rfl) (fun _ _ _ h => h) ?_ ?_ ?_ (by assumption) ?_
                case refine_3 => (simp only [List.getElem?_toArray, List.getElem?_cons_succ, List.getElem?_cons_zero]; rfl)
                case refine_4 => rfl
                case refine_5 => rfl
                case refine_6 => (intro w' hSw; (try dsimp only at hSw); go_simp; (try with_reducible rfl))
                simp only [Act.put, List.setIfInBounds_toArray, List.set_cons_zero, List.set_cons_succ]
                refine take_one (i := 30) (d := 97) (oi := ?_) (v := ?_) ?_ (by kernel_rfl) (by kernel_rfl) (by kernel_rfl) (fun _ _ _ h => h) ?_ ?_ ?_ (by assumption) ?_
                case refine_3 => (simp only [List.getElem?_toArray, List.getElem?_cons_succ, List.getElem?_cons_zero]; rfl)
                case refine_4 => rfl
                case refine_5 => rfl
                case refine_6 => (intro w' hSw; (try dsimp only at hSw); go_simp; (try with_reducible rfl))
                simp only [Act.put, List.setIfInBounds_toArray, List.set_cons_zero, List.set_cons_succ]
                refine wpAnyH_ready (rs := [28]) (by kernel_rfl) (by simp) ?_
                refine AllReadyH.cons (o := ?_) ?_ (fun K hK => ?_) AllReadyH.nil
                case refine_2 => (simp only [List.getElem?_toArray, List.getElem?_cons_succ, List.getElem?_cons_zero]; rfl)
                go_simp
                (go_at_call 23; refine (read_rst HR0.out.drew.two.rd HLe.out HDr.out).mono ?_; rintro e w6 ⟨A6, cp6, rfl, hs6, hh, ho⟩; have HR6 := Lib.hid (HR0.out.drew.rop ho hh); have HS6 := Lib.hid hs6; clear hs6 hh ho)
                go_wp2_with (fail)
                refine hK.out _ _ (HR6.out.cellsK He1.out) (fun hHeld => ?_)
                clear hK K
                try simp only [Act.put, List.setIfInBounds_toArray, List.set_cons_zero, List.set_cons_succ]
                refine wpAnyH_ready (rs := [31]) (by kernel_rfl) (by simp) ?_
                refine AllReadyH.cons (o := ?_) ?_ (fun K hK => ?_) AllReadyH.nil
                case refine_2 => (simp only [List.getElem?_toArray, List.getElem?_cons_succ, List.getElem?_cons_zero]; rfl)
                go_simp
                (go_at_call 19; refine (Equal_c _ _ _ o.xs o.xs HS6.out (HOk.out.src' HR6.out.two.only)).mono ?_; rintro e w7 ⟨rfl, rfl⟩)
                go_wp2_with (fail)
                refine hK.out _ _ (by assumption) (fun hHeld => ?_)
                clear hK K
                try simp only [Act.put, List.setIfInBounds_toArray, List.set_cons_zero, List.set_cons_succ]
                refine take_one (i := 32) (d := 99) (oi := ?_) (v := ?_) ?_ (by kernel_rfl) (by kernel_rfl) (by kernel_rfl) (fun _ _ _ h => h) ?_ ?_ ?_ (by assumption) ?_
                case refine_3 => (simp only [List.getElem?_toArray, List.getElem?_cons_succ, List.getElem?_cons_zero]; rfl)
                case refine_4 => rfl
                case refine_5 => rfl
                case refine_6 => (intro w' hSw; (try dsimp only at hSw); go_simp; (try with_reducible rfl))
                simp only [Act.put, List.setIfInBounds_toArray, List.set_cons_zero, List.set_cons_succ]
                refine take_one (i := 33) (d := 100) (oi := ?_) (v := ?_) ?_ (by kernel_rfl) (by kernel_rfl) (by kernel_rfl) (fun _ _ _ h => h) ?_ ?_ ?_ (by assumption) ?_
                case refine_3 => (simp only [List.getElem?_toArray, List.getElem?_cons_succ, List.getElem?_cons_zero]; rfl)
                case refine_4 => rfl
                case refine_5 => rfl
                case refine_6 => (intro w' hSw; (try dsimp only at hSw); go_simp; (try with_reducible rfl))
                simp only [Act.put, List.setIfInBounds_toArray, List.set_cons_zero, List.set_cons_succ]
                refine take_one (i := 34) (d := 101) (oi := ?_) (v := ?_) ?_ (by kernel_rfl) (by kernel_rfl) (by kernel_rfl) (fun _ _ _ h => h) ?_ ?_ ?_ (by assumption) ?_
                case refine_3 => (simp only [List.getElem?_toArray, List.getElem?_cons_succ, List.getElem?_cons_zero]; rfl)
                case refine_4 => rfl
                case refine_5 => rfl
                case refine_6 => (intro w' hSw; (try dsimp only at hSw); go_simp; (try with_reducible rfl))
                simp only [Act.put, List.setIfInBounds_toArray, List.set_cons_zero, List.set_cons_succ]
                refine wpAnyH_done (by kernel_rfl) ?_ _
                go_wp2
                refine ⟨⟨j + 1, by omega, by go_num, by rw [HSn.out, List.length_append]; exact HR6.out.two⟩, ?_⟩
                simp [intOf]
                omega
              · have HPi : Hid (piece o = []) := by show _ = _; rw [piece, if_neg e0, if_neg e1]
                have z0 : (o.kind == 0) = false := by simpa using e0
                have z1 : (o.kind == 1) = false := by simpa using e1
                rw [HPi.out] at HSn
                clear e0 e1 hdr
                go_quiet (fail)
                go_wp2
                refine ⟨⟨j + 1, by omega, by go_num, by rw [HSn.out, List.append_nil]; exact (HR0.out.drewN _).two⟩, ?_⟩
                simp [intOf]
                omega
          · obtain rfl : j = k := by omega
            have hkm : ¬ (j : Int) < (j : Int) := by omega
            rw [List.take_of_length_le (by have := Hlen.out; omega)] at htwo
            have HT := Lib.hid htwo
            clear htwo
            go_wp2_with (fail)
            go_region_held3 (fun w' => Only (wr.heap.size ≤ ·) wr w') (first | assumption | exact (Only.refl _ wr).drew) (first | (go_at_call 8; refine (alive_c _).mono ?_; rintro e w9 ⟨rfl, ho9⟩; have hO9 : Only (wr.heap.size ≤ ·) wr w9 := Only.trans (by assumption) (ho9.mono fun k h => Nat.le_trans (Only.size (by assumption)) h)) | (go_at_call 24; refine (err_rst (HT.out.rd.later (by assumption))).mono ?_; rintro e w8 ⟨rfl, rfl⟩) | (go_at_call 18; (with_reducible refine (at_rst (HT.out.rd.later (by assumption))).mono ?_); rintro e w8 ⟨rfl, rfl⟩) | (go_at_call 18; (with_reducible refine (at_wst (HT.out.wr.later (by assumption))).mono ?_); rintro e w8 ⟨rfl, rfl⟩))
            all_goals
              go_wp2
              go_ret
              exact ⟨rfl, HT.out.only.trans (Only.mono (by assumption) fun k h => Nat.le_trans HT.out.only.size h)⟩
  · have HF : Hid (Calls Try.prog 7 #[.slice A n c] w fun e w' => e = .returned (.bool false) ∧ Only (w.heap.size ≤ ·) w w') := (few_c w A n c l h hn).mono fun e w' ⟨h1, h2⟩ => ⟨by rw [h1, decide_eq_false hf], h2⟩
    clear h hf
    go_enter Try.func4, Try.ntmps4
    go_wp2_with (first | (go_at_call 7; refine HF.out.mono ?_; rintro e w1 ⟨rfl, ho⟩; have O1 := Lib.hid ho; clear ho) | (go_at_call 8; refine (alive_c _).mono ?_; rintro e w9 ⟨rfl, ho⟩))
    go_ret
    exact ⟨rfl, on_new O1.out ho⟩
end Go.Proofs.Ytmkpcdcdhheokaa
