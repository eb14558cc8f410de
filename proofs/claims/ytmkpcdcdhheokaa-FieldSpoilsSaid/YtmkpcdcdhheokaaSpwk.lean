/-
  FieldSpoils: the walk.
-/
import Derived.Test.YtmkpcdcdhheokaaTwo
import Derived.Outline
set_option linter.unusedVariables false
namespace Go.Proofs.Ytmkpcdcdhheokaa
open Go.RowKit

/-- A spoiled cursor that stands at 0. -/
structure Dead (c : Cur) : Prop where
  sp : c.sp = true
  at_ : c.at_ = 0
theorem Dead.of {b : Bytes} (h : b.length ≤ 4000) : Dead ((Cur.new b).take ((b.length : Int) + 1)) := by
  have : (Cur.new b).has ((b.length : Int) + 1) = false := by
    have e : (Cur.new b).has ((b.length : Int) + 1) = (!false && (decide (0 ≤ (b.length : Int) + 1) && decide ((b.length : Int) + 1 ≤ (b.length : Int) - (0 : Nat)))) := rfl
    rw [e, decide_eq_false (show ¬ ((b.length : Int) + 1 ≤ (b.length : Int) - (0 : Nat)) by omega)]
    simp
  rw [Cur.take, this]
  exact ⟨rfl, rfl⟩
theorem make_nat (n : Nat) (h : n ≤ 65536) : Cur.make (n : Int) = Cur.new (List.replicate n 0) := by rw [Cur.make, size, if_pos (by omega), Int.toNat_natCast]
theorem Dead.make {n : Nat} (h : n ≤ 4000) : Dead ((Cur.make (n : Int)).take ((n : Int) + 1)) := by
  rw [make_nat n (by omega)]
  have := Dead.of (b := List.replicate n 0) (by simpa using h)
  simpa using this

section
variable {w : World} {p g q s : Nat} {c : Cur}
theorem dead_put (hd : Dead c) (h : Holds w p g 41 c) (n k : Int) (h1 : -9223372036854775808 ≤ n) (h2 : n ≤ 9223372036854775807) : Calls Try.prog 11 #[.pointer (some ⟨p, 0, none⟩), .int .i64 n, .int .i64 k] w fun e w' => e = .returned (.tuple #[]) ∧ Holds w' p g 41 c ∧ Only (Foot p g) w w' := by
  have := Put_c w p g c h n k h1 h2
  rwa [Cur.put_sp hd.sp] at this
theorem dead_bytes (hd : Dead c) (h : Holds w p g 41 c) (v : Value) (xs : Bytes) (hx : Src w v xs) (hf : ∀ ad n c', v = .slice (some ad) n c' → 0 < n → ¬ Foot p g ad.block) : Calls Try.prog 13 #[.pointer (some ⟨p, 0, none⟩), v] w fun e w' => e = .returned (.tuple #[]) ∧ Holds w' p g 41 c ∧ Only (Foot p g) w w' := by
  have := WBytes_c w p g c h v xs hx hf
  rwa [Cur.write_sp hd.sp] at this
theorem dead_skip {T : TypeId} (hd : Dead c) (h : Holds w p g T c) (n : Int) : Calls Try.prog 15 #[.pointer (some ⟨p, 0, none⟩), .int .i64 n] w fun e w' => e = .returned (.tuple #[]) ∧ Holds w' p g T c ∧ Only (· = p) w w' := by
  have := Skip_c w p g T c h n
  rwa [Cur.take_sp hd.sp] at this
theorem dead_done (hd : Dead c) (h : Holds w p g 41 c) : Calls Try.prog 17 #[.pointer (some ⟨p, 0, none⟩)] w fun e w' => ∃ v, e = .returned (.tuple #[v, .int .i64 30]) ∧ Only (w.heap.size ≤ ·) w w' :=
  (Done_c w p g c h).mono fun e w' ⟨v, h1, _, h2⟩ => ⟨v, by rw [h1, Cur.err, if_pos hd.sp], h2⟩
theorem dead_at {T : TypeId} (hd : Dead c) (h : Holds w p g T c) : Calls Try.prog 18 #[.pointer (some ⟨p, 0, none⟩)] w fun e w' => e = .returned (.int .i64 0) ∧ w = w' :=
  (At_c w p g T c h).mono fun e w' ⟨h1, h2⟩ => ⟨by rw [h1, hd.at_]; rfl, h2⟩
theorem dead_get (hd : Dead c) (h : Holds w p g 55 c) (k : Int) : Calls Try.prog 22 #[.pointer (some ⟨p, 0, none⟩), .int .i64 k] w fun e w' => e = .returned (.int .i64 0) ∧ Holds w' p g 55 c ∧ Only (· = p) w w' := by
  have := Get_c w p g c h k
  unfold Gets at this
  rwa [Cur.get_sp hd.sp, Cur.val, Cur.may_sp hd.sp] at this
theorem dead_read (hd : Dead c) (h : Holds w p g 55 c) (n : Int) : Calls Try.prog 23 #[.pointer (some ⟨p, 0, none⟩), .int .i64 n] w fun e w' => ∃ A cp, e = .returned (.slice A 0 cp) ∧ Holds w' p g 55 c ∧ Only (fun k => k = p ∨ w.heap.size ≤ k) w w' := by
  refine (RBytes_c w p g c h n).mono fun e w' ⟨v, h1, ⟨A, cp, hv, _⟩, h2, h3⟩ => ?_
  rw [Cur.got_no (Cur.has_sp hd.sp n)] at hv
  rw [Cur.take_sp hd.sp] at h2
  subst hv
  exact ⟨A, cp, h1, h2, h3⟩
theorem dead_err (hd : Dead c) (h : Holds w p g 55 c) : Calls Try.prog 24 #[.pointer (some ⟨p, 0, none⟩)] w fun e w' => e = .returned (.int .i64 30) ∧ w = w' :=
  (Err_c w p g c h).mono fun e w' ⟨h1, h2⟩ => ⟨by rw [h1, Cur.err, if_pos hd.sp], h2⟩
end

set_option maxRecDepth 100000 in
set_option maxHeartbeats 3200000 in
theorem spoils_walk (w : World) (A : Option Addr) (n c : Nat) (l : List Cl) (h : Script w A n l) (hn : n ≤ 140737488355328) (B : Option Addr) (cb' : Nat) (xs : Bytes) (hx : Src w (.slice B xs.length cb') xs) (hxm : xs.length ≤ 9223372036854775807) :
    Calls Try.prog 6 #[.slice B xs.length cb', .slice A n c] w fun e w' => e = .returned (.bool true) ∧ Only (w.heap.size ≤ ·) w w' := by
  have HS := Lib.hid h
  have HX := Lib.hid hx
  by_cases hf : n ≤ 100 ∧ total l ≤ 4000
  · have HF : Hid (∀ W, Only (w.heap.size ≤ ·) w W → Calls Try.prog 7 #[.slice A n c] w fun e w' => e = .returned (.bool true) ∧ Only (w.heap.size ≤ ·) w w') := fun W _ => (few_c w A n c l h hn).mono fun e w' ⟨h1, h2⟩ => ⟨by rw [h1, decide_eq_true hf], h2⟩
    by_cases h4 : xs.length ≤ 4000
    · have HDw : Hid (Dead ((Cur.make (xs.length : Int)).take ((xs.length : Int) + 1))) := Dead.make h4
      have HDr : Hid (Dead ((Cur.new xs).take ((xs.length : Int) + 1))) := Dead.of h4
      have Hxl : Hid (xs.length ≤ 1099511627776) := by show _ ≤ _; omega
      obtain ⟨m, hm⟩ : ∃ m, m = xs.length := ⟨_, rfl⟩
      rw [← hm] at h4 HDw HDr
      have HM := Lib.hid hm
      have h4' : (m : Int) ≤ 4000 := by omega
      have hn' : (n : Int) ≤ 140737488355328 := by omega
      have HX2 : Hid (Src w (.slice B m cb') xs) := by rw [hm]; exact hx
      rw [← hm]
      clear h hx hf hm hxm
      go_enter Try.func6, Try.ntmps6
      go_wp2_with (first | (go_at_call 7; refine (HF.out w (Only.refl _ w)).mono ?_; rintro e w1 ⟨rfl, ho⟩; have O1 := Lib.hid ho; clear ho) | (go_at_call 9; refine (NewWriter_c _ _).mono ?_; rintro e w2 ⟨p, g, rfl, hp, hg, hh, ho, hlt⟩; have HP := Lib.hid (And.intro hp (And.intro hg hlt)); have H2 := Lib.hid hh; have O2 := Lib.hid ho; clear hp hg hh ho hlt) | (go_at_call 21; refine (NewReader_c _ _ xs (HX2.out.later (O1.out.trans (O2.out.mono fun k hk => Nat.le_trans O1.out.size hk))) Hxl.out).mono ?_; rintro e w3 ⟨q, s, rfl, hq, hs, hh, ho, hlt⟩; have HT := Lib.hid (two_new O1.out HP.out H2.out O2.out hq hs hh ho); clear hq hs hh ho hlt) | (go_at_call 15; (with_reducible refine (Skip_c _ p g _ _ HT.out.wr _).mono ?_); rintro e w4 ⟨rfl, hh, ho⟩; have HT2 := Lib.hid (HT.out.wop (ho.mono fun k h => .inl h) hh); clear hh ho) | (go_at_call 15; (with_reducible refine (Skip_c _ q s _ _ HT2.out.rd _).mono ?_); rintro e w5 ⟨rfl, hh, ho⟩; have HT3 := Lib.hid (HT2.out.rop (ho.mono fun k h => .inl h) hh); clear hh ho))
      generalize (Cur.make (m : Int)).take ((m : Int) + 1) = cw at HT3 HDw
      generalize (Cur.new xs).take ((m : Int) + 1) = cr at HT3 HDr
      clear HT2 HT H2 O2 O1 HX2 HX HF HP
      go_loopw [47] (fun i wr => ∃ k : Nat, k ≤ n ∧ i = .int .i64 k ∧ Two w wr p g q s cw cr) (fun i _ => n - (intOf i).toNat)
      case atStart => exact ⟨0, Nat.zero_le _, rfl, HT3.out⟩
      case round =>
        obtain ⟨k, hk, rfl, htwo⟩ := hrel
        by_cases hlt : k < n
        · obtain ⟨b, off, o, rfl, hb, hlk, hok, hr⟩ := HS.out.at_ hlt
          have hr' := range_only hr htwo.only (by omega)
          have q0 : wr.cell? ⟨b, off + k * 4, none⟩ = some (.int .i64 o.kind) := hr' 0 _ rfl
          have q1 : wr.cell? ⟨b, off + k * 4 + 1, none⟩ = some (.int .i64 o.n) := hr' 1 _ rfl
          have q2 : wr.cell? ⟨b, off + k * 4 + 2, none⟩ = some (.int .i64 o.width) := hr' 2 _ rfl
          have q3 : wr.cell? ⟨b, off + k * 4 + 3, none⟩ = some (.slice o.B o.xs.length o.cB) := hr' 3 _ rfl
          have hk0 : (0 : Int) ≤ (k : Int) := Int.natCast_nonneg _
          have hk1 : (k : Int) < (n : Int) := by omega
          have HR0 := Lib.hid (Rnd.new htwo o)
          have HF := Lib.hid (hok.far htwo.lo.1 htwo.lo.2)
          have HOk := Lib.hid hok
          clear hr hr' hok hb hlk htwo HT3
          go_wp2_with (first | (go_at_call 11; refine (dead_put HDw.out HR0.out.two.wr _ _ HOk.out.n1.1 HOk.out.n1.2).mono ?_; rintro e w1 ⟨rfl, hh, ho⟩; have HR1 := Lib.hid (HR0.out.wop ho hh); clear hh ho; obtain ⟨c10, c11, c12, c13⟩ := HR1.out.cells) | (go_at_call 13; refine (dead_bytes HDw.out HR1.out.two.wr _ _ (HOk.out.src' HR1.out.two.only) HF.out).mono ?_; rintro e w2 ⟨rfl, hh, ho⟩; have HR2 := Lib.hid (HR1.out.wop ho hh); clear hh ho; obtain ⟨c20, c21, c22, c23⟩ := HR2.out.cells))
          go_still_tail 5, (by kernel_rfl)
          change wpList _ _ _ _ _ w2.drew
          have HR2d := Lib.hid HR2.out.drew
          generalize w2.drew = w2d at HR2d ⊢
          clear c10 c11 c12 c13 c20 c21 c22 c23 HR1 HR0 HR2 q0 q1 q2 q3
          go_wp2_with (first | (go_at_call 15; refine (dead_skip HDw.out HR2d.out.two.wr _).mono ?_; rintro e w3 ⟨rfl, hh, ho⟩; have HR3 := Lib.hid (HR2d.out.sop ho hh); clear hh ho; obtain ⟨c30, c31, c32, c33⟩ := HR3.out.cells) | (go_at_call 17; refine (dead_done HDw.out HR3.out.two.wr).mono ?_; rintro e w4 ⟨v4, rfl, ho⟩; have HR4 := Lib.hid (HR3.out.later ho); clear ho; obtain ⟨c40, c41, c42, c43⟩ := HR4.out.cells) | (go_at_call 18; (with_reducible refine (dead_at HDw.out HR4.out.two.wr).mono ?_); rintro e w5 ⟨rfl, rfl⟩) | (go_at_call 22; refine (dead_get HDr.out HR4.out.two.rd _).mono ?_; rintro e w6 ⟨rfl, hh, ho⟩; have HR5 := Lib.hid (HR4.out.qop ho hh); clear hh ho; obtain ⟨c50, c51, c52, c53⟩ := HR5.out.cells) | (go_at_call 23; refine (dead_read HDr.out HR5.out.two.rd _).mono ?_; rintro e w7 ⟨A7, cp7, rfl, hh, ho⟩; have HR6 := Lib.hid (HR5.out.rop ho hh); clear hh ho; obtain ⟨c60, c61, c62, c63⟩ := HR6.out.cells) | (go_at_call 18; (with_reducible refine (dead_at HDr.out HR6.out.two.rd).mono ?_); rintro e w8 ⟨rfl, rfl⟩) | (go_at_call 24; refine (dead_err HDr.out HR6.out.two.rd).mono ?_; rintro e w8 ⟨rfl, rfl⟩))
          refine ⟨⟨k + 1, by omega, by go_num, HR6.out.two⟩, ?_⟩
          simp [intOf]
          omega
        · obtain rfl : k = n := by omega
          have hkm : ¬ (k : Int) < (k : Int) := by omega
          have HT3 := Lib.hid htwo
          clear htwo
          go_wp2_with (first | (go_at_call 8; refine (alive_c _).mono ?_; rintro e w9 ⟨rfl, ho⟩))
          go_ret
          exact ⟨rfl, on_new HT3.out.only ho⟩
    · have h4' : (4000 : Int) < (xs.length : Int) := by omega
      clear h hx hf
      obtain ⟨m, hm⟩ : ∃ m, m = xs.length := ⟨_, rfl⟩
      rw [← hm] at h4' hxm ⊢
      clear hm h4 HX
      go_enter Try.func6, Try.ntmps6
      go_wp2_with (first | (go_at_call 7; refine (HF.out w (Only.refl _ w)).mono ?_; rintro e w1 ⟨rfl, ho⟩; have O1 := Lib.hid ho; clear ho) | (go_at_call 8; refine (alive_c _).mono ?_; rintro e w9 ⟨rfl, ho⟩))
      go_ret
      exact ⟨rfl, on_new O1.out ho⟩
  · have HF : Hid (∀ W, Only (w.heap.size ≤ ·) w W → Calls Try.prog 7 #[.slice A n c] w fun e w' => e = .returned (.bool false) ∧ Only (w.heap.size ≤ ·) w w') := fun W _ => (few_c w A n c l h hn).mono fun e w' ⟨h1, h2⟩ => ⟨by rw [h1, decide_eq_false hf], h2⟩
    clear h hx hf
    go_enter Try.func6, Try.ntmps6
    go_wp2_with (first | (go_at_call 7; refine (HF.out w (Only.refl _ w)).mono ?_; rintro e w1 ⟨rfl, ho⟩; have O1 := Lib.hid ho; clear ho) | (go_at_call 8; refine (alive_c _).mono ?_; rintro e w9 ⟨rfl, ho⟩))
    go_ret
    exact ⟨rfl, on_new O1.out ho⟩
end Go.Proofs.Ytmkpcdcdhheokaa
