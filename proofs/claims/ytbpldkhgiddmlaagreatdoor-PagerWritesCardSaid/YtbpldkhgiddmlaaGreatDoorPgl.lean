/-
  alive: the walk. A pager's surroundings.
-/
import Derived.Test.YtbpldkhgiddmlaaGreatDoorPgz
import Derived.Test.YtbpldkhgiddmlaaGreatDoorPgv
import Derived.Test.YtbpldkhgiddmlaaGreatDoorGv
import Derived.Test.YtbpldkhgiddmlaaGreatDoorPgu
import Derived.LaidEqlPtr
set_option linter.unusedVariables false
namespace Go.Proofs.YtbpldkhgiddmlaaGreatDoor
open Go.RowKit

/-- A pager and its disk; all that changed since w0 is new. -/
structure Env (w0 W : World) (q p : Nat) (d : Dk.Dsk) (D : Nat → Prop) : Prop where
  at_ : PAt W q p d D
  new : ∀ k, D k → w0.heap.size ≤ k
  only : Only (w0.heap.size ≤ ·) w0 W
section
variable {w0 W W' : World} {q p : Nat} {d d' : Dk.Dsk} {D : Nat → Prop}
theorem Env.later (h : Env w0 W q p d D) (ho : Only (W.heap.size ≤ ·) W W') : Env w0 W' q p d D := ⟨h.at_.later ho, h.new, on_new h.only ho⟩
theorem Env.gave (h : Env w0 W q p d D) (hg : PGave W W' q p d' D) : ∃ D', Env w0 W' q p d' D' ∧ Only (fun k => D k ∨ W.heap.size ≤ k) W W' ∧ ∀ k, D' k → D k ∨ W.heap.size ≤ k := by
  obtain ⟨ho, D', ha, hs⟩ := hg
  have hz := h.only.size
  exact ⟨D', ⟨ha, fun k hk => (hs k hk).elim (h.new k) (fun h1 => Nat.le_trans hz h1), h.only.trans (ho.mono fun k hk => hk.elim (h.new k) (fun h1 => Nat.le_trans hz h1))⟩, ho, hs⟩
theorem Env.far {m : Nat} (h : Env w0 W q p d D) (ho : Only (· = m) W W') (hm : ¬ D m) (hq : q ≠ m) (hw : w0.heap.size ≤ m) : Env w0 W' q p d D :=
  ⟨⟨h.at_.blk.only ho (fun e => hq e), h.at_.off, ⟨h.at_.dat.holds.keep ho (fun k hk _ e => hm (e ▸ hk)), fun k hk => Nat.lt_of_lt_of_le (h.at_.dat.lt k hk) ho.size⟩⟩, h.new, h.only.trans (ho.mono fun k e => by rw [e]; exact hw)⟩
theorem Env.off (h : Env w0 W q p d D) : ∀ k, D k → k < W.heap.size := h.at_.dat.lt
end
theorem DNew_d (w : World) (limit : Int) : Calls Tryz.prog 30 #[.int .i64 limit] w fun e w' => ∃ p D, e = .returned (.pointer (some ⟨p, 0, none⟩)) ∧ DAt w' p (Dk.Dsk.load [] limit) D ∧ (∀ k, D k → w.heap.size ≤ k) ∧ Only (w.heap.size ≤ ·) w w' := by
  refine (Dk.New_c w (fun k => w.heap.size ≤ k) (fun _ h => h) limit).mono ?_
  rintro e w' ⟨p, rfl, h⟩
  exact ⟨p, fun k => w.heap.size ≤ k ∧ k < w'.heap.size, rfl, ⟨h.out.1.mono fun k hk hF => ⟨hF, hk⟩, fun k hk => hk.2⟩, fun k hk => hk.1, h.out.2⟩
theorem Repeat_n (w : World) : Calls Tryz.prog 31 #[.slice (some ⟨w.heap.size, 0, none⟩) 1 1, .int .i64 256] (w.alloc (.cells #[sev8] 5)) fun e w' => ∃ A c, e = .returned (.slice A 256 c) ∧ New w' w.heap.size (.slice A 256 c) zSv ∧ Only (w.heap.size ≤ ·) w w' := by
  refine (Repeat_c _ w.heap.size (Blk.new w 5 [sev8])).mono ?_
  rintro e w' ⟨g, L, rfl, hg, rest, h1, h2, h3⟩
  have h0 : Only (w.heap.size ≤ ·) w w' := on_new ((Only.refl _ w).alloc (fun _ h => h) _) (Only.below h3)
  refine ⟨_, _, rfl, ?_, h0⟩
  have hc : cb zSv = List.replicate 256 sev8 := by unfold cb zSv; rw [List.map_replicate]; rfl
  have hl : zSv.length = 256 := List.length_replicate
  have h4 := Txt.blk (xs := zSv) (rest := rest) (A := some ⟨g, 0, none⟩) (by rw [hc]; exact h1) 0 zSv.length (by omega) (fun _ => rfl)
  rw [List.drop_zero, List.take_length] at h4
  refine ⟨some ⟨g, 0, none⟩, 256, by rw [hl], h4, (fun e => by cases e), by rw [hl]; exact Nat.le_refl _, by omega, fun ad e => ?_⟩
  cases e
  have h5 : w.heap.size + 1 ≤ g := by simpa using hg
  exact ⟨by show w.heap.size ≤ g; omega, h1.lt⟩
theorem row_one {W : World} {D : Nat → Prop} {BA : Option Addr} {bc : Nat} (hB : Stab D W (fun W => Src W (.slice BA 256 bc) zSv)) (hD : ∀ k, D k → k < W.heap.size) : SRw wrE D (W.alloc (.cells #[.int .i64 2, .slice BA 256 bc] 71)) (.slice (some ⟨W.heap.size, 0, none⟩) 1 1) zW1 := by
  have hl : zSv.length = 256 := List.length_replicate
  have hb : Blk (W.alloc (.cells #[.int .i64 2, .slice BA zSv.length bc] 71)) W.heap.size 71 [.int .i64 2, .slice BA zSv.length bc] := Blk.new W _ _
  have hs : Stab D (W.alloc (.cells #[.int .i64 2, .slice BA zSv.length bc] 71)) (fun W => Src W (.slice BA zSv.length bc) zSv) := by
    rw [hl]
    exact Stab.later hB ((Only.refl _ W).alloc (fun _ h => h) _)
  have h := srw_one hb (fun hk => Nat.lt_irrefl _ (hD _ hk)) hs
  rw [hl] at h
  exact h
theorem zA_room : Roomy zA (cost zW1 + 1000) := by unfold Roomy; decide +kernel
theorem zB_room : Roomy zB.1 (cost zW1 + 1000) := by unfold Roomy; decide +kernel
theorem fmt_lit (W : World) (q p r : Nat) (D : Nat → Prop) (h : PAt W q p zA D) (hG : Gens W) (hr : SRw wrE D W (.slice (some ⟨r, 0, none⟩) 1 1) zW1) : Calls Tryz.prog 12 #[.pointer (some ⟨q, 0, none⟩), .slice (some ⟨r, 0, none⟩) 1 1, .agg #[.int .i64 1, .int .i64 0, .int .i64 0, .int .i64 2, .int .i64 2, .int .i64 3, .int .i64 0, .slice none 0 0]] W fun e w' => e = .returned (.int .i64 0) ∧ PGave W w' q p zB.1 D := by
  have hI : ∀ u ∈ [(1 : Int), 0, 0, 2, 2, 3, 0], I64 u := by intro u hu; simp only [List.mem_cons, List.not_mem_nil, or_false] at hu; unfold I64; omega
  have h1 := PgFormat_c W q p zA D h hG 1 0 0 2 2 3 0 none 0 0 [] (Src.nil_ _) rfl hI (some ⟨r, 0, none⟩) 1 1 zW1 hr (by decide) (by intro y hy; rw [List.mem_singleton.1 hy]; decide) zA_room
  rw [z_ok.1] at h1
  have e : fmP zA true 3 2 zW1 (encB [1, 0, 0, 2 - 1, 2, 3, 0] []) (encB [1, 0, 0, 2, 2, 3, 0] []) = zB := rfl
  rw [e, zB_err] at h1
  exact h1
theorem cmt_lit (W : World) (q p r : Nat) (D : Nat → Prop) (h : PAt W q p zB.1 D) (hG : Gens W) (hr : SRw wrE D W (.slice (some ⟨r, 0, none⟩) 1 1) zW1) : Calls Tryz.prog 14 #[.pointer (some ⟨q, 0, none⟩), .slice (some ⟨r, 0, none⟩) 1 1, .agg #[.int .i64 1, .int .i64 0, .int .i64 0, .int .i64 3, .int .i64 2, .int .i64 3, .int .i64 0, .slice none 0 0]] W fun e w' => e = .returned (.int .i64 0) ∧ PGave W w' q p zC.1 D := by
  have hI : ∀ u ∈ [(1 : Int), 0, 0, 3, 2, 3, 0], I64 u := by intro u hu; simp only [List.mem_cons, List.not_mem_nil, or_false] at hu; unfold I64; omega
  have h1 := PgCommit_c W q p zB.1 D h hG 1 0 0 3 2 3 0 none 0 0 [] (Src.nil_ _) rfl hI (some ⟨r, 0, none⟩) 1 1 zW1 hr (by decide) (by intro y hy; rw [List.mem_singleton.1 hy]; decide) zB_room
  rw [z_ok.2.1] at h1
  have e : cmP zB.1 true 3 3 zW1 (encB [1, 0, 0, 3, 2, 3, 0] []) = zC := rfl
  rw [e, zC_err] at h1
  exact h1
theorem new_lit (W : World) (q p : Nat) (D : Nat → Prop) (h : PAt W q p zC.1 D) (hG : Gens W) : Calls Tryz.prog 26 #[.pointer (some ⟨q, 0, none⟩)] W fun e w' => ∃ A c, e = .returned (.tuple #[.agg #[.int .i64 1, .int .i64 0, .int .i64 0, .int .i64 3, .int .i64 2, .int .i64 3, .int .i64 0, .slice A 0 c], .int .i64 1, .int .i64 0]) ∧ New w' W.heap.size (.slice A 0 c) [] ∧ Only (W.heap.size ≤ ·) W w' := by
  refine (PgNewest_c W q p zC.1 D h hG).mono ?_
  rintro e w' ⟨g, ph, t, x, r, p', l, A, n, c, h1, h2, rfl, h3, h4⟩
  obtain ⟨e1, e2, e3⟩ := zC_at
  rw [e2] at h1
  rw [e3] at h2 h3
  simp only [List.cons.injEq, and_true] at h1
  obtain ⟨rfl, rfl, rfl, rfl, rfl, rfl, rfl⟩ := h1
  subst h2
  rw [e1]
  exact ⟨A, c, rfl, h3, h4⟩
section
variable (W : World) (q p : Nat) (D : Nat → Prop) (h : PAt W q p zC.1 D)
include h
theorem page_lit : Calls Tryz.prog 25 #[.pointer (some ⟨q, 0, none⟩), .int .i64 2] W fun e w' => ∃ v, e = .returned (.tuple #[v, .int .i64 0]) ∧ New w' W.heap.size v zSv ∧ Only (W.heap.size ≤ ·) W w' := by
  have h1 := PgPage_c W q p zC.1 D h 2
  rw [zC_page] at h1
  exact h1
theorem odd_lit : Calls Tryz.prog 25 #[.pointer (some ⟨q, 0, none⟩), .int .i64 3] W fun e w' => ∃ v, e = .returned (.tuple #[v, .int .i64 11]) ∧ New w' W.heap.size v [] ∧ Only (W.heap.size ≤ ·) W w' := by
  have h1 := PgPage_c W q p zC.1 D h 3
  rw [zC_odd] at h1
  exact h1
theorem pages_lit : Calls Tryz.prog 20 #[.pointer (some ⟨q, 0, none⟩)] W fun e w' => e = .returned (.int .i64 3) ∧ W = w' := by
  have h1 := PgPages_c W q p zC.1 D h
  rw [zC_nums.1] at h1
  exact h1
theorem limit_lit : Calls Tryz.prog 22 #[.pointer (some ⟨q, 0, none⟩)] W fun e w' => e = .returned (.int .i64 25) ∧ W = w' := by
  have h1 := PgLimit_c W q p zC.1 D h
  rw [zC_nums.2.1] at h1
  exact h1
theorem ops_lit : Calls Tryz.prog 33 #[.pointer (some ⟨p, 0, none⟩)] W fun e w' => e = .returned (.int .i64 9) ∧ W = w' := by
  have h1 := Dk.Ops_c W D p zC.1 h.dat.holds
  rw [zC_nums.2.2.1] at h1
  exact h1
end
theorem disk_info : (Tryz.prog.info? 81).isSome = true := by kernel_rfl
theorem same_disk (p : Nat) (W : World) : (binOp .eql 30 (.pointer (some ⟨p, 0, none⟩)) (.pointer (some ⟨p, 0, none⟩))).run Tryz.prog W = .ok (.bool true) W := by
  obtain ⟨j, hj⟩ := Option.isSome_iff_exists.1 disk_info
  exact run_eql_ptr_same W _ Tryz.underlying30 hj
set_option maxRecDepth 100000 in
set_option maxHeartbeats 25600000 in
theorem Pgalive_c (w : World) (hG : Gens w) : Calls Tryz.prog 6 #[] w (Told w (.bool true)) := by
  have HG := Lib.hid hG
  clear hG
  go_enter Tryz.func6, Tryz.ntmps6
  go_upto_region 2 with (go_at_call 30; (with_reducible refine (DNew_d _ 100).mono ?_); rintro e w1 ⟨p, D, rfl, hd, h0, ho⟩; have HD := Lib.hid hd; have HN := Lib.hid h0; have HO := Lib.hid ho; clear hd h0 ho)
  go_upto_region 3 with (go_at_call 9; (with_reducible refine (PgNew_c _ p _ D HD.out).mono ?_); rintro e w2 ⟨q, rfl, hp, ho⟩; have HE : Hid (Env w w2 q p zA D) := Lib.hid ⟨hp, HN.out, on_new HO.out ho⟩; clear hp ho)
  clear HD HN HO
  go_upto_region 6 with (go_at_call 9; (with_reducible refine (PgNew_nil _).mono ?_); rintro e w' ⟨rfl, rfl⟩)
  obtain ⟨w3, hw3⟩ : ∃ z, z = w2.alloc (.cells #[.int .i64 1, .int .i64 0, .int .i64 0, .int .i64 2, .int .i64 2, .int .i64 3, .int .i64 0, .slice none 0 0] 45) := ⟨_, rfl⟩
  have HO3 : Hid (Only (w2.heap.size ≤ ·) w2 w3) := Lib.hid (by rw [hw3]; exact (Only.refl _ w2).alloc (fun _ h => h) _)
  have HM : Hid (Stab D w3 (fun W => Blk W w2.heap.size 45 [.int .i64 1, .int .i64 0, .int .i64 0, .int .i64 2, .int .i64 2, .int .i64 3, .int .i64 0, .slice none 0 0])) := Lib.hid (blk_stab (by rw [hw3]; exact Blk.new _ _ _) (fun hk => Nat.lt_irrefl _ (HE.out.off _ hk)))
  have HML : Hid (w2.heap.size < w3.heap.size) := Lib.hid (by rw [hw3]; simp)
  have HMD : Hid (¬ D w2.heap.size) := Lib.hid (fun hk => Nat.lt_irrefl _ (HE.out.off _ hk))
  have HMN : Hid (w.heap.size ≤ w2.heap.size) := Lib.hid HE.out.only.size
  replace HE := Lib.hid (HE.out.later HO3.out)
  rw [← hw3]
  generalize hmz : w2.heap.size = m at HM HML HMD HMN ⊢
  clear hw3 hmz HO3
  go_upto_region 7 with (go_at_call 31; refine (Repeat_n w3).mono ?_; rintro e w4 ⟨BA, bc, rfl, hb, ho⟩; have HB : Hid (Stab (fun k => D k ∨ k = m) w4 (fun W => Src W (.slice BA 256 bc) zSv)) := Lib.hid (hb.stab (fun k hk => hk.elim (HE.out.off k) (fun e => by rw [e]; exact HML.out))); (replace HM := Lib.hid (Stab.later HM.out ho)); (replace HML := Lib.hid (Nat.lt_of_lt_of_le HML.out ho.size)); (replace HE := Lib.hid (HE.out.later ho)); clear hb ho)
  have HOA : Hid (Only (w4.heap.size ≤ ·) w4 (w4.alloc (.cells #[.int .i64 2, .slice BA 256 bc] 71))) := Lib.hid ((Only.refl _ w4).alloc (fun _ h => h) _)
  (obtain ⟨i0, i1, i2, i3, i4, i5, i6, i7⟩ := (Stab.later HM.out HOA.out).now.eight)
  have HRW := Lib.hid (row_one (HB.out.mono fun k hk => .inl (.inl hk)) HE.out.off)
  go_upto_region 8 with (go_at_call 12; (with_reducible refine (fmt_lit _ q p _ D (HE.out.later ((Only.refl _ w4).alloc (fun _ h => h) _)).at_ (HG.out.later (HE.out.later ((Only.refl _ w4).alloc (fun _ h => h) _)).only) HRW.out).mono ?_); rintro e w5 ⟨rfl, hg⟩; have HGV := Lib.hid hg; clear hg)
  clear i0 i1 i2 i3 i4 i5 i6 i7
  obtain ⟨D5, he5, ho5, hs5⟩ := (HE.out.later HOA.out).gave HGV.out
  replace HM := Lib.hid ((Stab.later HM.out HOA.out).step ho5 hs5)
  replace HB : Hid (Stab (fun k => D5 k ∨ k = m) w5 (fun W => Src W (.slice BA 256 bc) zSv)) := Lib.hid ((Stab.later HB.out HOA.out).step (ho5.mono fun k hk => hk.elim (fun h1 => .inl (.inl h1)) .inr) (fun k hk => hk.elim (fun h1 => (hs5 k h1).elim (fun h2 => .inl (.inl h2)) .inr) (fun h1 => .inl (.inr h1))))
  replace HMD : Hid (¬ D5 m) := Lib.hid (fun hk => (hs5 m hk).elim HMD.out (fun h1 => by have h2 := HML.out; have h3 := HOA.out.size; omega))
  replace HML := Lib.hid (Nat.lt_of_lt_of_le HML.out (Nat.le_trans HOA.out.size ho5.size))
  replace HE := Lib.hid he5
  clear he5 ho5 hs5 HOA HGV HRW
  have i3 := HM.out.now.cell 3
  have z3 := HM.out.now.frozen 3
  go_upto_region 9 with (fail)
  obtain ⟨w6, hw6⟩ : ∃ z, z = w5.setCell ⟨m, 3, none⟩ (.int .i64 3) := ⟨_, rfl⟩
  have HO6 : Hid (Only (· = m) w5 w6) := Lib.hid (by rw [hw6]; exact (Only.refl (· = m) w5).setCell (p := ⟨m, 3, none⟩) rfl _)
  have HMB : Hid (Blk w6 m 45 [.int .i64 1, .int .i64 0, .int .i64 0, .int .i64 3, .int .i64 2, .int .i64 3, .int .i64 0, .slice none 0 0]) := Lib.hid (by rw [hw6]; exact HM.out.now.set_ 3 (.int .i64 3))
  rw [← hw6]
  clear hw6 i3 z3
  have HQM : Hid (q ≠ m) := Lib.hid (HE.out.at_.blk.ne HM.out.now (by decide))
  replace HM : Hid (Stab D5 w6 (fun W => Blk W m 45 [.int .i64 1, .int .i64 0, .int .i64 0, .int .i64 3, .int .i64 2, .int .i64 3, .int .i64 0, .slice none 0 0])) := Lib.hid (blk_stab HMB.out HMD.out)
  replace HB : Hid (Stab D5 w6 (fun W => Src W (.slice BA 256 bc) zSv)) := Lib.hid (HB.out.step (HO6.out.mono fun k hk => .inl (.inr hk)) (fun k hk => .inl (.inl hk)))
  replace HE : Hid (Env w w6 q p zB.1 D5) := Lib.hid (HE.out.far HO6.out HMD.out HQM.out HMN.out)
  clear HMD HMN HQM
  clear HMB HO6
  have HOA : Hid (Only (w6.heap.size ≤ ·) w6 (w6.alloc (.cells #[.int .i64 2, .slice BA 256 bc] 71))) := Lib.hid ((Only.refl _ w6).alloc (fun _ h => h) _)
  (obtain ⟨i0, i1, i2, i3, i4, i5, i6, i7⟩ := (Stab.later HM.out HOA.out).now.eight)
  have HRW := Lib.hid (row_one HB.out HE.out.off)
  go_upto_region 10 with (go_at_call 14; (with_reducible refine (cmt_lit _ q p _ D5 (HE.out.later ((Only.refl _ w6).alloc (fun _ h => h) _)).at_ (HG.out.later (HE.out.later ((Only.refl _ w6).alloc (fun _ h => h) _)).only) HRW.out).mono ?_); rintro e w7 ⟨rfl, hg⟩; have HGV := Lib.hid hg; clear hg)
  clear i0 i1 i2 i3 i4 i5 i6 i7
  obtain ⟨D7, he7, ho7, hs7⟩ := (HE.out.later HOA.out).gave HGV.out
  replace HM := Lib.hid ((Stab.later HM.out HOA.out).step ho7 hs7)
  replace HB := Lib.hid ((Stab.later HB.out HOA.out).step ho7 hs7)
  replace HE := Lib.hid he7
  clear he7 ho7 hs7 HOA HGV HRW HML
  go_upto_region 11 with (go_at_call 26; (with_reducible refine (new_lit _ q p D7 HE.out.at_ (HG.out.later HE.out.only)).mono ?_); rintro e w8 ⟨AN, cn, rfl, hn, ho⟩; have HSN : Hid (Src w8 (.slice AN 0 cn) []) := Lib.hid hn.src; (replace HE := Lib.hid (HE.out.later ho)); (replace HM := Lib.hid (Stab.later HM.out ho)); (replace HB := Lib.hid (Stab.later HB.out ho)); clear hn ho)
  obtain ⟨w9, hw9⟩ : ∃ z, z = w8.alloc (.cells #[.int .i64 1, .int .i64 0, .int .i64 0, .int .i64 3, .int .i64 2, .int .i64 3, .int .i64 0, .slice AN 0 cn] 45) := ⟨_, rfl⟩
  have HO9 : Hid (Only (w8.heap.size ≤ ·) w8 w9) := Lib.hid (by rw [hw9]; exact (Only.refl _ w8).alloc (fun _ h => h) _)
  have HN : Hid (Stab D7 w9 (fun W => Blk W w8.heap.size 45 [.int .i64 1, .int .i64 0, .int .i64 0, .int .i64 3, .int .i64 2, .int .i64 3, .int .i64 0, .slice AN 0 cn])) := Lib.hid (blk_stab (by rw [hw9]; exact Blk.new _ _ _) (fun hk => Nat.lt_irrefl _ (HE.out.off _ hk)))
  rw [← hw9]
  clear hw9
  replace HE := Lib.hid (HE.out.later HO9.out)
  replace HM := Lib.hid (Stab.later HM.out HO9.out)
  replace HB := Lib.hid (Stab.later HB.out HO9.out)
  generalize w8.heap.size = n at HN HO9 ⊢
  clear HO9
  go_upto_region 12 with (go_at_call 25; (with_reducible refine (page_lit _ q p D7 HE.out.at_).mono ?_); rintro e w10 ⟨v10, rfl, hn, ho⟩; have HV : Hid (Stab D7 w10 (fun W => Src W v10 zSv)) := Lib.hid (hn.stab HE.out.off); (replace HE := Lib.hid (HE.out.later ho)); (replace HM := Lib.hid (Stab.later HM.out ho)); (replace HN := Lib.hid (Stab.later HN.out ho)); (replace HB := Lib.hid (Stab.later HB.out ho)); clear hn ho)
  go_upto_region 13 with (go_at_call 25; (with_reducible refine (odd_lit _ q p D7 HE.out.at_).mono ?_); rintro e w11 ⟨v11, rfl, hn, ho⟩; (replace HE := Lib.hid (HE.out.later ho)); (replace HM := Lib.hid (Stab.later HM.out ho)); (replace HN := Lib.hid (Stab.later HN.out ho)); (replace HB := Lib.hid (Stab.later HB.out ho)); (replace HV := Lib.hid (Stab.later HV.out ho)); clear hn ho)
  (obtain ⟨i0, i1, i2, i3, i4, i5, i6, i7⟩ := HM.out.now.eight); (obtain ⟨j0, j1, j2, j3, j4, j5, j6, j7⟩ := HN.out.now.eight)
  have qD := same_disk p
  go_wp2_with (first
    | (go_at_call 32; (with_reducible refine (MSame_c _ 1 0 0 3 2 3 0 1 0 0 3 2 3 0 none AN 0 0 0 cn true (by decide) true (fun W _ => Equal_b W _ _ [] [] true (Src.nil_ _) (src_nil W HSN.out) rfl)).mono ?_); rintro ee w12 ⟨rfl, ho⟩; (replace HE := Lib.hid (HE.out.later ho)); (replace HM := Lib.hid (Stab.later HM.out ho)); (replace HN := Lib.hid (Stab.later HN.out ho)); (replace HB := Lib.hid (Stab.later HB.out ho)); (replace HV := Lib.hid (Stab.later HV.out ho)); clear ho i0 i1 i2 i3 i4 i5 i6 i7 j0 j1 j2 j3 j4 j5 j6 j7)
    | (go_at_call 29; (with_reducible refine (Equal_b _ _ _ zSv zSv true HB.out.now HV.out.now (decide_eq_true rfl)).mono ?_); rintro ee w' ⟨rfl, rfl⟩)
    | (go_at_call 20; (with_reducible refine (pages_lit _ q p D7 HE.out.at_).mono ?_); rintro ee w' ⟨rfl, rfl⟩)
    | (go_at_call 22; (with_reducible refine (limit_lit _ q p D7 HE.out.at_).mono ?_); rintro ee w' ⟨rfl, rfl⟩)
    | (go_at_call 33; (with_reducible refine (ops_lit _ q p D7 HE.out.at_).mono ?_); rintro ee w' ⟨rfl, rfl⟩)
    | (go_at_call 34; (with_reducible refine (PgDisk_c _ q p zC.1 D7 HE.out.at_).mono ?_); rintro ee w' ⟨rfl, rfl⟩))
  go_ret
  exact ⟨rfl, HE.out.only⟩
end Go.Proofs.YtbpldkhgiddmlaaGreatDoor
