/-
  FieldWrites: the walk.
-/
import Derived.Test.YtmkpcdcdhheokaaAliv
import Derived.Test.YtmkpcdcdhheokaaFew
import Derived.Test.YtmkpcdcdhheokaaRtak
import Derived.Test.YtmkpcdcdhheokaaTwo
import Derived.StillTailTactics
import Derived.Outline
set_option linter.unusedVariables false
namespace Go.Proofs.Ytmkpcdcdhheokaa
open Go.RowKit

/-- The writer c, and the document's state d in its box b. -/
structure Pair (w0 W : World) (M p g b : Nat) (c d : Cur) (A : Option Addr) (cap : Nat) : Prop where
  lo : w0.heap.size ≤ p ∧ w0.heap.size ≤ g ∧ p < M ∧ g < M ∧ M ≤ b ∧ M ≤ W.heap.size
  wr : Holds W p g 41 c
  box : Blk W b 29 [.slice A d.b.length cap, .int .i64 d.at_, .bool d.sp]
  st : St M W (.agg #[.slice A d.b.length cap, .int .i64 d.at_, .bool d.sp]) d
  len : d.b.length ≤ 65536
  only : Only (w0.heap.size ≤ ·) w0 W

section
variable {w0 w1 w2 : World} {M p g b cap cap' : Nat} {c d e : Cur} {A A' : Option Addr}
theorem St.wop {v : Value} (h : St M w1 v d) (hp : p < M) (hg : g < M) (ho : Only (Foot p g) w1 w2) : St M w2 v d := by
  obtain ⟨h1, A, cap, h2, ⟨A', cap', h3, h4, h5⟩, h6⟩ := h
  refine ⟨h1, A, cap, h2, ⟨A', cap', h3, h4.only ho (fun ad hn e hf => ?_), h5⟩, h6⟩
  injection h3 with e1 e2 e3
  have := h6 ad (e1.trans e) hn
  rcases hf with hf | hf <;> omega
theorem Pair.wop (h : Pair w0 w1 M p g b c d A cap) (ho : Only (Foot p g) w1 w2) (hh : Holds w2 p g 41 e) : Pair w0 w2 M p g b e d A cap := by
  obtain ⟨⟨l1, l2, l3, l4, l5, l6⟩, h2, h3, h4, h5, h6⟩ := h
  have := ho.size
  exact ⟨⟨l1, l2, l3, l4, l5, by omega⟩, hh, h3.only ho (by rintro (e | e) <;> omega), h4.wop l3 l4 ho, h5, h6.trans (foot_ge l1 l2 ho)⟩
theorem Pair.later (h : Pair w0 w1 M p g b c d A cap) (ho : Only (w1.heap.size ≤ ·) w1 w2) : Pair w0 w2 M p g b c d A cap := by
  obtain ⟨⟨l1, l2, l3, l4, l5, l6⟩, h2, h3, h4, h5, h6⟩ := h
  have := ho.size
  have := h3.lt
  exact ⟨⟨l1, l2, l3, l4, l5, by omega⟩, h2.later ho, h3.only ho (by omega), h4.later ho, h5, on_new h6 ho⟩
/-- A state stored into its box. -/
theorem Pair.put (h : Pair w0 w1 M p g b c d A cap) (hs : St M w1 (.agg #[.slice A' e.b.length cap', .int .i64 e.at_, .bool e.sp]) e) (hl : e.b.length ≤ 65536) :
    Pair w0 (((w1.setCell ⟨b, 0, none⟩ (.slice A' e.b.length cap')).setCell ⟨b, 1, none⟩ (.int .i64 e.at_)).setCell ⟨b, 2, none⟩ (.bool e.sp)) M p g b c e A' cap' := by
  obtain ⟨⟨l1, l2, l3, l4, l5, l6⟩, h2, h3, h4, h5, h6⟩ := h
  have ho : Only (· = b) w1 (((w1.setCell ⟨b, 0, none⟩ (.slice A' e.b.length cap')).setCell ⟨b, 1, none⟩ (.int .i64 e.at_)).setCell ⟨b, 2, none⟩ (.bool e.sp)) := (((Only.refl (· = b) w1).setCell rfl _).setCell rfl _).setCell rfl _
  have := ho.size
  refine ⟨⟨l1, l2, l3, l4, l5, by omega⟩, h2.only ho ?_, ((h3.set_ 0 _).set_ 1 _).set_ 2 _, hs.apart h3 (three_no _ _ _ _ _) ho, hl, h6.trans (ho.mono fun k hk => by subst hk; omega)⟩
  rintro k (rfl | rfl) _ e <;> omega
theorem Pair.cells (h : Pair w0 w1 M p g b c d A cap) : w1.cell? ⟨b, 0, none⟩ = some (.slice A d.b.length cap) ∧ w1.cell? ⟨b, 1, none⟩ = some (.int .i64 d.at_) ∧ w1.cell? ⟨b, 2, none⟩ = some (.bool d.sp) ∧ ∀ i, w1.frozen? ⟨b, i, none⟩ = false := h.box.three
end

theorem Pair.src {w0 w1 : World} {M p g b cap : Nat} {c d : Cur} {A : Option Addr} (h : Pair w0 w1 M p g b c d A cap) : Src w1 (.slice A d.b.length cap) d.b := by
  obtain ⟨_, A', cap', h2, h3, _⟩ := h.st
  simp only [Value.agg.injEq, List.toArray_inj, Array.mk.injEq, List.cons.injEq, Value.slice.injEq, true_and, and_true] at h2
  obtain ⟨rfl, rfl⟩ := h2
  exact h3

/-- In a round: the call at hand stands in the block k. -/
structure Prd (w0 W : World) (M p g b k : Nat) (c d : Cur) (A : Option Addr) (cap : Nat) (kv : Value) (o : Cl) : Prop where
  pair : Pair w0 W M p g b c d A cap
  op : Blk W k 32 [kv, .int .i64 o.n, .int .i64 o.width, .slice o.B o.xs.length o.cB]
  hi : b < k ∧ M ≤ k

section
variable {w0 w1 w2 : World} {M p g b k cap cap' : Nat} {c d e : Cur} {A A' : Option Addr} {kv : Value} {o : Cl}
theorem Prd.new (h : Pair w0 w1 M p g b c d A cap) (kv : Value) (o : Cl) : Prd w0 (w1.alloc (.cells #[kv, .int .i64 o.n, .int .i64 o.width, .slice o.B o.xs.length o.cB] 32)) M p g b w1.heap.size c d A cap kv o :=
  ⟨h.later ((Only.refl _ w1).alloc (fun _ h => h) _), Blk.new w1 32 [kv, .int .i64 o.n, .int .i64 o.width, .slice o.B o.xs.length o.cB], h.box.lt, h.lo.2.2.2.2.2⟩
theorem Prd.wop (h : Prd w0 w1 M p g b k c d A cap kv o) (ho : Only (Foot p g) w1 w2) (hh : Holds w2 p g 41 e) : Prd w0 w2 M p g b k e d A cap kv o := by
  obtain ⟨h1, h2, h3⟩ := h
  obtain ⟨l1, l2, l3, l4, l5, l6⟩ := h1.lo
  exact ⟨h1.wop ho hh, h2.only ho (by rintro (e | e) <;> omega), h3⟩
theorem Prd.sop (h : Prd w0 w1 M p g b k c d A cap kv o) (ho : Only (· = p) w1 w2) (hh : Holds w2 p g 41 e) : Prd w0 w2 M p g b k e d A cap kv o := h.wop (ho.mono fun k h => .inl h) hh
theorem Prd.later (h : Prd w0 w1 M p g b k c d A cap kv o) (ho : Only (w1.heap.size ≤ ·) w1 w2) : Prd w0 w2 M p g b k c d A cap kv o := by
  obtain ⟨h1, h2, h3⟩ := h
  have := h2.lt
  exact ⟨h1.later ho, h2.only ho (by omega), h3⟩
theorem Prd.put (h : Prd w0 w1 M p g b k c d A cap kv o) (hs : St M w1 (.agg #[.slice A' e.b.length cap', .int .i64 e.at_, .bool e.sp]) e) (hl : e.b.length ≤ 65536) :
    Prd w0 (((w1.setCell ⟨b, 0, none⟩ (.slice A' e.b.length cap')).setCell ⟨b, 1, none⟩ (.int .i64 e.at_)).setCell ⟨b, 2, none⟩ (.bool e.sp)) M p g b k c e A' cap' kv o := by
  obtain ⟨h1, h2, h3⟩ := h
  exact ⟨h1.put hs hl, h2.only (F := (· = b)) ((((Only.refl (· = b) w1).setCell rfl _).setCell rfl _).setCell rfl _) (by omega), h3⟩
theorem Prd.cells (h : Prd w0 w1 M p g b k c d A cap kv o) : w1.cell? ⟨k, 0, none⟩ = some kv ∧ w1.cell? ⟨k, 1, none⟩ = some (.int .i64 o.n) ∧ w1.cell? ⟨k, 2, none⟩ = some (.int .i64 o.width) ∧ w1.cell? ⟨k, 3, none⟩ = some (.slice o.B o.xs.length o.cB) :=
  ⟨h.op.cell 0, h.op.cell 1, h.op.cell 2, h.op.cell 3⟩
end

/-- What the document's calls make of a state, as one shape. -/
def Made2 (M : Nat) (w : World) (c : Cur) (e : Ending) (w' : World) : Prop := ∃ A cap, e = .returned (.agg #[.slice A c.b.length cap, .int .i64 c.at_, .bool c.sp]) ∧ St M w' (.agg #[.slice A c.b.length cap, .int .i64 c.at_, .bool c.sp]) c ∧ Only (w.heap.size ≤ ·) w w'
theorem made2 {M : Nat} {w w' : World} {c : Cur} {e : Ending} (h : ∃ v, e = .returned v ∧ St M w' v c ∧ Only (w.heap.size ≤ ·) w w') : Made2 M w c e w' := by
  obtain ⟨v, h1, h2, h3⟩ := h
  obtain ⟨A, cap, rfl, _⟩ := h2.parts
  exact ⟨A, cap, h1, h2, h3⟩

theorem pair_new {w0 w1 w2 w3 : World} {p g cap : Nat} {c : Cur} {A : Option Addr} (o1 : Only (w0.heap.size ≤ ·) w0 w1) (hp : w1.heap.size ≤ p ∧ w1.heap.size ≤ g ∧ g < w2.heap.size) (h2 : Holds w2 p g 41 c) (o2 : Only (w1.heap.size ≤ ·) w1 w2)
    (hs : St w2.heap.size w3 (.agg #[.slice A c.b.length cap, .int .i64 c.at_, .bool c.sp]) c) (o3 : Only (w2.heap.size ≤ ·) w2 w3) (hl : c.b.length ≤ 65536) :
    Pair w0 (w3.alloc (.cells #[.slice A c.b.length cap, .int .i64 c.at_, .bool c.sp] 29)) w2.heap.size p g w3.heap.size c c A cap := by
  have := o1.size
  have := o3.size
  have := h2.lt
  have ho : Only (w3.heap.size ≤ ·) w3 (w3.alloc (.cells #[.slice A c.b.length cap, .int .i64 c.at_, .bool c.sp] 29)) := (Only.refl _ w3).alloc (fun _ h => h) _
  refine ⟨⟨by omega, by omega, by omega, by omega, by omega, by simp; omega⟩, (h2.later o3).later ho, Blk.new w3 29 [.slice A c.b.length cap, .int .i64 c.at_, .bool c.sp], hs.later ho, hl, on_new (on_new (on_new o1 o2) o3) ho⟩
theorem make_len (n : Int) : (Cur.make n).b.length ≤ 65536 := by
  have := size_le n
  simpa [Cur.make, Cur.new] using this

set_option maxRecDepth 100000 in
set_option maxHeartbeats 6400000 in
theorem writes_walk (w : World) (A : Option Addr) (n c : Nat) (l : List Cl) (h : Script w A n l) (hn : n ≤ 140737488355328) (size_ : Int) :
    Calls Try.prog 3 #[.int .i64 size_, .slice A n c] w fun e w' => e = .returned (.bool true) ∧ Only (w.heap.size ≤ ·) w w' := by
  have HS := Lib.hid h
  by_cases hf : n ≤ 100 ∧ total l ≤ 4000
  · have HF : Hid (Calls Try.prog 7 #[.slice A n c] w fun e w' => e = .returned (.bool true) ∧ Only (w.heap.size ≤ ·) w w') := (few_c w A n c l h hn).mono fun e w' ⟨h1, h2⟩ => ⟨by rw [h1, decide_eq_true hf], h2⟩
    have hn' : (n : Int) ≤ 140737488355328 := by omega
    clear h hf
    go_enter Try.func3, Try.ntmps3
    go_wp2_with (first | (go_at_call 7; refine HF.out.mono ?_; rintro e w1 ⟨rfl, ho⟩; have O1 := Lib.hid ho; clear ho) | (go_at_call 9; refine (NewWriter_c _ _).mono ?_; rintro e w2 ⟨p, g, rfl, hp, hg, hh, ho, hlt⟩; have HP := Lib.hid (And.intro hp (And.intro hg hlt)); have H2 := Lib.hid hh; have O2 := Lib.hid ho; clear hp hg hh ho hlt) | (go_at_call 10; refine (rWriter_c _ _ (Nat.le_refl _) _).mono ?_; rintro e w3 hm; obtain ⟨A3, cap3, rfl, hst, ho⟩ := made2 hm; have HST := Lib.hid hst; have O3 := Lib.hid ho; clear hm hst ho))
    have HQ := Lib.hid (pair_new O1.out HP.out H2.out O2.out HST.out O3.out (make_len size_))
    generalize hw4 : w3.alloc (.cells #[.slice A3 (Cur.make size_).b.length cap3, .int .i64 (Cur.make size_).at_, .bool (Cur.make size_).sp] 29) = w4 at HQ ⊢
    generalize hM : w2.heap.size = M at HQ
    generalize hb0 : w3.heap.size = b at HQ ⊢
    clear hw4 hM hb0 O1 O2 O3 HP H2 HST HF
    go_loopw [23] (fun i wr => ∃ (k : Nat) (d : Cur) (A' : Option Addr) (cap' : Nat), k ≤ n ∧ i = .int .i64 k ∧ Pair w wr M p g b d d A' cap') (fun i _ => n - (intOf i).toNat)
    case atStart => exact ⟨0, _, _, _, Nat.zero_le _, rfl, HQ.out⟩
    case round =>
      obtain ⟨k, d, A', cap', hk, rfl, hpair⟩ := hrel
      clear HQ
      by_cases hlt : k < n
      · obtain ⟨bb, off, o, rfl, hb, hlk, hok, hr⟩ := HS.out.at_ hlt
        have hr' := range_only hr hpair.only (by omega)
        have q0 : wr.cell? ⟨bb, off + k * 4, none⟩ = some (.int .i64 o.kind) := hr' 0 _ rfl
        have q1 : wr.cell? ⟨bb, off + k * 4 + 1, none⟩ = some (.int .i64 o.n) := hr' 1 _ rfl
        have q2 : wr.cell? ⟨bb, off + k * 4 + 2, none⟩ = some (.int .i64 o.width) := hr' 2 _ rfl
        have q3 : wr.cell? ⟨bb, off + k * 4 + 3, none⟩ = some (.slice o.B o.xs.length o.cB) := hr' 3 _ rfl
        have hk0 : (0 : Int) ≤ (k : Int) := Int.natCast_nonneg _
        have hk1 : (k : Int) < (n : Int) := by omega
        have HFar := Lib.hid (hok.far hpair.lo.1 hpair.lo.2.1)
        have HOk := Lib.hid hok
        have HP := Lib.hid hpair
        clear hr hr' hok hb hlk hpair
        by_cases e0 : o.kind = 0
        · rw [e0] at q0
          have HR0 := Lib.hid (Prd.new HP.out (.int .i64 0) o)
          clear e0
          go_wp2_with (first | (go_at_call 11; refine (Put_c _ p g _ HR0.out.pair.wr _ _ HOk.out.n1.1 HOk.out.n1.2).mono ?_; rintro e w1 ⟨rfl, hh, ho⟩; have HR1 := Lib.hid (HR0.out.wop ho hh); clear hh ho; obtain ⟨c10, c11, c12, c13⟩ := HR1.out.cells; obtain ⟨b10, b11, b12, b13⟩ := HR1.out.pair.cells) | (go_at_call 12; refine (rPut_c M _ HR1.out.pair.lo.2.2.2.2.2 _ _ HR1.out.pair.st (Nat.le_trans HR1.out.pair.len (by decide)) _ _ HOk.out.n1.1 HOk.out.n1.2).mono ?_; rintro e w2 hm; obtain ⟨A2, cap2, rfl, hst, ho⟩ := made2 hm; have HR2 := Lib.hid (HR1.out.later ho); have HST := Lib.hid hst; clear hm hst ho; obtain ⟨b20, b21, b22, b23⟩ := HR2.out.pair.cells; have HR3 := Lib.hid (HR2.out.put HST.out (by rw [Cur.put_len]; exact HR2.out.pair.len))) | (go_at_call 17; refine (Done_c _ p g _ HR3.out.pair.wr).mono ?_; rintro e w4 ⟨v4, rfl, hs, ho⟩; obtain ⟨A4, c4, rfl, _⟩ := id hs; have HR4 := Lib.hid (HR3.out.later ho); have HS4 := Lib.hid hs; clear ho hs; obtain ⟨b40, b41, b42, b43⟩ := HR4.out.pair.cells))
          generalize d.put o.n o.width = f at HR4 HS4 b40 b41 b42 ⊢
          clear HR0 HR1 HR2 HR3 HST HOk HFar HP c10 c11 c12 c13 b10 b11 b12 b13 b20 b21 b22 b23 q0 q1 q2 q3
          obtain ⟨fb, fa, fs⟩ := f
          have HAt : Hid (∀ m : Nat, Calls Try.prog 18 #[.pointer (some ⟨p, 0, none⟩)] (w4.drewN m) fun e w' => e = .returned (.int .i64 fa) ∧ w' = w4.drewN m) := fun m => (At_c _ p g _ _ (HR4.out.pair.wr.drewN m)).mono fun e w' ⟨h, h'⟩ => ⟨h, h'.symm⟩
          have hne : ((fa : Int) != (fa : Int)) = false := by simp
          cases fs
          · have e1 : (⟨fb, fa, false⟩ : Cur).err = 0 := rfl
            have e2 : (⟨fb, fa, false⟩ : Cur).out = fb := rfl
            rw [e2] at HS4
            rw [e1, e2]
            have HEq : Hid (∀ m : Nat, Calls Try.prog 19 #[.slice A4 fb.length c4, .slice A2 fb.length cap2] (w4.drewN m) fun e w' => e = .returned (.bool true) ∧ w' = w4.drewN m) := fun m => (Equal_c (w4.drewN m) _ _ fb fb (HS4.out.later ((Only.refl _ w4).drewN m)) (HR4.out.pair.src.later ((Only.refl _ w4).drewN m))).mono fun e w' ⟨h, h'⟩ => ⟨by rw [h]; simp, h'.symm⟩
            clear e1 e2
            go_quiet (first | (go_at_call 18; exact Calls.quiet_of_same (HAt.out _)) | (go_at_call 19; exact Calls.quiet_of_same (HEq.out _)))
            go_wp2
            refine ⟨⟨k + 1, _, A2, cap2, by omega, by go_num, (HR4.out.later ((Only.refl _ w4).drewN nq)).pair⟩, ?_⟩
            simp [intOf]
            omega
          · have e1 : (⟨fb, fa, true⟩ : Cur).err = 30 := rfl
            have e2 : (⟨fb, fa, true⟩ : Cur).out = [] := rfl
            rw [e1, e2]
            clear e1 e2 HS4
            go_quiet ((go_at_call 18; exact Calls.quiet_of_same (HAt.out _)))
            go_wp2
            refine ⟨⟨k + 1, _, A2, cap2, by omega, by go_num, (HR4.out.later ((Only.refl _ w4).drewN nq)).pair⟩, ?_⟩
            simp [intOf]
            omega
        · by_cases e1 : o.kind = 1
          · rw [e1] at q0
            have HR0 := Lib.hid (Prd.new HP.out (.int .i64 1) o)
            clear e0 e1
            go_wp2_with (first | (go_at_call 13; refine (WBytes_c _ p g _ HR0.out.pair.wr _ _ (HOk.out.src' HR0.out.pair.only) HFar.out).mono ?_; rintro e w1 ⟨rfl, hh, ho⟩; have HR1 := Lib.hid (HR0.out.wop ho hh); clear hh ho; obtain ⟨c10, c11, c12, c13⟩ := HR1.out.cells; obtain ⟨b10, b11, b12, b13⟩ := HR1.out.pair.cells) | (go_at_call 14; refine (rBytes_c M _ HR1.out.pair.lo.2.2.2.2.2 _ _ HR1.out.pair.st (Nat.le_trans HR1.out.pair.len (by decide)) _ _ (HOk.out.src' HR1.out.pair.only)).mono ?_; rintro e w2 hm; obtain ⟨A2, cap2, rfl, hst, ho⟩ := made2 hm; have HR2 := Lib.hid (HR1.out.later ho); have HST := Lib.hid hst; clear hm hst ho; obtain ⟨b20, b21, b22, b23⟩ := HR2.out.pair.cells; have HR3 := Lib.hid (HR2.out.put HST.out (by rw [Cur.write_len]; exact HR2.out.pair.len))) | (go_at_call 17; refine (Done_c _ p g _ HR3.out.pair.wr).mono ?_; rintro e w4 ⟨v4, rfl, hs, ho⟩; obtain ⟨A4, c4, rfl, _⟩ := id hs; have HR4 := Lib.hid (HR3.out.later ho); have HS4 := Lib.hid hs; clear ho hs; obtain ⟨b40, b41, b42, b43⟩ := HR4.out.pair.cells))
            generalize d.write o.xs = f at HR4 HS4 b40 b41 b42 ⊢
            clear HR0 HR1 HR2 HR3 HST HOk HFar HP c10 c11 c12 c13 b10 b11 b12 b13 b20 b21 b22 b23 q0 q1 q2 q3
            obtain ⟨fb, fa, fs⟩ := f
            have HAt : Hid (∀ m : Nat, Calls Try.prog 18 #[.pointer (some ⟨p, 0, none⟩)] (w4.drewN m) fun e w' => e = .returned (.int .i64 fa) ∧ w' = w4.drewN m) := fun m => (At_c _ p g _ _ (HR4.out.pair.wr.drewN m)).mono fun e w' ⟨h, h'⟩ => ⟨h, h'.symm⟩
            have hne : ((fa : Int) != (fa : Int)) = false := by simp
            cases fs
            · have e1 : (⟨fb, fa, false⟩ : Cur).err = 0 := rfl
              have e2 : (⟨fb, fa, false⟩ : Cur).out = fb := rfl
              rw [e2] at HS4
              rw [e1, e2]
              have HEq : Hid (∀ m : Nat, Calls Try.prog 19 #[.slice A4 fb.length c4, .slice A2 fb.length cap2] (w4.drewN m) fun e w' => e = .returned (.bool true) ∧ w' = w4.drewN m) := fun m => (Equal_c (w4.drewN m) _ _ fb fb (HS4.out.later ((Only.refl _ w4).drewN m)) (HR4.out.pair.src.later ((Only.refl _ w4).drewN m))).mono fun e w' ⟨h, h'⟩ => ⟨by rw [h]; simp, h'.symm⟩
              clear e1 e2
              go_quiet (first | (go_at_call 18; exact Calls.quiet_of_same (HAt.out _)) | (go_at_call 19; exact Calls.quiet_of_same (HEq.out _)))
              go_wp2
              refine ⟨⟨k + 1, _, A2, cap2, by omega, by go_num, (HR4.out.later ((Only.refl _ w4).drewN nq)).pair⟩, ?_⟩
              simp [intOf]
              omega
            · have e1 : (⟨fb, fa, true⟩ : Cur).err = 30 := rfl
              have e2 : (⟨fb, fa, true⟩ : Cur).out = [] := rfl
              rw [e1, e2]
              clear e1 e2 HS4
              go_quiet ((go_at_call 18; exact Calls.quiet_of_same (HAt.out _)))
              go_wp2
              refine ⟨⟨k + 1, _, A2, cap2, by omega, by go_num, (HR4.out.later ((Only.refl _ w4).drewN nq)).pair⟩, ?_⟩
              simp [intOf]
              omega
          · by_cases e2 : o.kind = 2
            · rw [e2] at q0
              have HR0 := Lib.hid (Prd.new HP.out (.int .i64 2) o)
              clear e0 e1 e2
              go_wp2_with (fail)
              generalize hw0 : wr.alloc (.cells #[.int .i64 2, .int .i64 o.n, .int .i64 o.width, .slice o.B o.xs.length o.cB] 32) = w00 at HR0 ⊢
              obtain ⟨c00, c01, c02, c03⟩ := HR0.out.cells
              go_still_tail 5, (by kernel_rfl)
              change wpList _ _ _ _ _ w00.drew
              have HR0d := Lib.hid (HR0.out.later ((Only.refl _ w00).drew))
              generalize w00.drew = w0d at HR0d ⊢
              clear hw0 c00 c01 c02 c03 HR0 q0 q1 q2 q3
              go_wp2_with (first | (go_at_call 15; refine (Skip_c _ p g _ _ HR0d.out.pair.wr _).mono ?_; rintro e w1 ⟨rfl, hh, ho⟩; have HR1 := Lib.hid (HR0d.out.sop ho hh); clear hh ho; obtain ⟨c10, c11, c12, c13⟩ := HR1.out.cells; obtain ⟨b10, b11, b12, b13⟩ := HR1.out.pair.cells) | (go_at_call 16; refine (rSkip_c M _ _ _ HR1.out.pair.st _).mono ?_; rintro e w2 hm; obtain ⟨A2, cap2, rfl, hst, ho⟩ := made2 hm; have HR2 := Lib.hid (HR1.out.later ho); have HST := Lib.hid hst; clear hm hst ho; obtain ⟨b20, b21, b22, b23⟩ := HR2.out.pair.cells; have HR3 := Lib.hid (HR2.out.put HST.out (by rw [Cur.take_b]; exact HR2.out.pair.len))) | (go_at_call 17; refine (Done_c _ p g _ HR3.out.pair.wr).mono ?_; rintro e w4 ⟨v4, rfl, hs, ho⟩; obtain ⟨A4, c4, rfl, _⟩ := id hs; have HR4 := Lib.hid (HR3.out.later ho); have HS4 := Lib.hid hs; clear ho hs; obtain ⟨b40, b41, b42, b43⟩ := HR4.out.pair.cells))
              generalize d.take o.n = f at HR4 HS4 b40 b41 b42 ⊢
              clear HR0d HR1 HR2 HR3 HST HOk HFar HP c10 c11 c12 c13 b10 b11 b12 b13 b20 b21 b22 b23
              obtain ⟨fb, fa, fs⟩ := f
              have HAt : Hid (∀ m : Nat, Calls Try.prog 18 #[.pointer (some ⟨p, 0, none⟩)] (w4.drewN m) fun e w' => e = .returned (.int .i64 fa) ∧ w' = w4.drewN m) := fun m => (At_c _ p g _ _ (HR4.out.pair.wr.drewN m)).mono fun e w' ⟨h, h'⟩ => ⟨h, h'.symm⟩
              have hne : ((fa : Int) != (fa : Int)) = false := by simp
              cases fs
              · have e1 : (⟨fb, fa, false⟩ : Cur).err = 0 := rfl
                have e2 : (⟨fb, fa, false⟩ : Cur).out = fb := rfl
                rw [e2] at HS4
                rw [e1, e2]
                have HEq : Hid (∀ m : Nat, Calls Try.prog 19 #[.slice A4 fb.length c4, .slice A2 fb.length cap2] (w4.drewN m) fun e w' => e = .returned (.bool true) ∧ w' = w4.drewN m) := fun m => (Equal_c (w4.drewN m) _ _ fb fb (HS4.out.later ((Only.refl _ w4).drewN m)) (HR4.out.pair.src.later ((Only.refl _ w4).drewN m))).mono fun e w' ⟨h, h'⟩ => ⟨by rw [h]; simp, h'.symm⟩
                clear e1 e2
                go_quiet (first | (go_at_call 18; exact Calls.quiet_of_same (HAt.out _)) | (go_at_call 19; exact Calls.quiet_of_same (HEq.out _)))
                go_wp2
                refine ⟨⟨k + 1, _, A2, cap2, by omega, by go_num, (HR4.out.later ((Only.refl _ w4).drewN nq)).pair⟩, ?_⟩
                simp [intOf]
                omega
              · have e1 : (⟨fb, fa, true⟩ : Cur).err = 30 := rfl
                have e2 : (⟨fb, fa, true⟩ : Cur).out = [] := rfl
                rw [e1, e2]
                clear e1 e2 HS4
                go_quiet ((go_at_call 18; exact Calls.quiet_of_same (HAt.out _)))
                go_wp2
                refine ⟨⟨k + 1, _, A2, cap2, by omega, by go_num, (HR4.out.later ((Only.refl _ w4).drewN nq)).pair⟩, ?_⟩
                simp [intOf]
                omega
            · have z0 : (o.kind == 0) = false := by simpa using e0
              have z1 : (o.kind == 1) = false := by simpa using e1
              have z2 : (o.kind == 2) = false := by simpa using e2
              have HR3 := Lib.hid (Prd.new HP.out (.int .i64 o.kind) o)
              clear e0 e1 e2
              go_wp2_with (first | (go_at_call 17; refine (Done_c _ p g _ HR3.out.pair.wr).mono ?_; rintro e w4 ⟨v4, rfl, hs, ho⟩; obtain ⟨A4, c4, rfl, _⟩ := id hs; have HR4 := Lib.hid (HR3.out.later ho); have HS4 := Lib.hid hs; clear ho hs; obtain ⟨b40, b41, b42, b43⟩ := HR4.out.pair.cells))
              obtain ⟨A2, hA2⟩ : ∃ A2, A2 = A' := ⟨_, rfl⟩
              obtain ⟨cap2, hcap2⟩ : ∃ cap2, cap2 = cap' := ⟨_, rfl⟩
              rw [← hA2, ← hcap2] at HR4 b40
              clear hA2 hcap2
              clear HR3 HOk HFar HP q0 q1 q2 q3 z0 z1 z2
              obtain ⟨fb, fa, fs⟩ := d
              have HAt : Hid (∀ m : Nat, Calls Try.prog 18 #[.pointer (some ⟨p, 0, none⟩)] (w4.drewN m) fun e w' => e = .returned (.int .i64 fa) ∧ w' = w4.drewN m) := fun m => (At_c _ p g _ _ (HR4.out.pair.wr.drewN m)).mono fun e w' ⟨h, h'⟩ => ⟨h, h'.symm⟩
              have hne : ((fa : Int) != (fa : Int)) = false := by simp
              cases fs
              · have e1 : (⟨fb, fa, false⟩ : Cur).err = 0 := rfl
                have e2 : (⟨fb, fa, false⟩ : Cur).out = fb := rfl
                rw [e2] at HS4
                rw [e1, e2]
                have HEq : Hid (∀ m : Nat, Calls Try.prog 19 #[.slice A4 fb.length c4, .slice A2 fb.length cap2] (w4.drewN m) fun e w' => e = .returned (.bool true) ∧ w' = w4.drewN m) := fun m => (Equal_c (w4.drewN m) _ _ fb fb (HS4.out.later ((Only.refl _ w4).drewN m)) (HR4.out.pair.src.later ((Only.refl _ w4).drewN m))).mono fun e w' ⟨h, h'⟩ => ⟨by rw [h]; simp, h'.symm⟩
                clear e1 e2
                go_quiet (first | (go_at_call 18; exact Calls.quiet_of_same (HAt.out _)) | (go_at_call 19; exact Calls.quiet_of_same (HEq.out _)))
                go_wp2
                refine ⟨⟨k + 1, _, A2, cap2, by omega, by go_num, (HR4.out.later ((Only.refl _ w4).drewN nq)).pair⟩, ?_⟩
                simp [intOf]
                omega
              · have e1 : (⟨fb, fa, true⟩ : Cur).err = 30 := rfl
                have e2 : (⟨fb, fa, true⟩ : Cur).out = [] := rfl
                rw [e1, e2]
                clear e1 e2 HS4
                go_quiet ((go_at_call 18; exact Calls.quiet_of_same (HAt.out _)))
                go_wp2
                refine ⟨⟨k + 1, _, A2, cap2, by omega, by go_num, (HR4.out.later ((Only.refl _ w4).drewN nq)).pair⟩, ?_⟩
                simp [intOf]
                omega
      · obtain rfl : k = n := by omega
        have hkm : ¬ (k : Int) < (k : Int) := by omega
        have HT3 := Lib.hid hpair
        clear hpair
        go_wp2_with (first | (go_at_call 8; refine (alive_c _).mono ?_; rintro e w9 ⟨rfl, ho⟩))
        go_ret
        exact ⟨rfl, on_new HT3.out.only ho⟩
  · have HF : Hid (Calls Try.prog 7 #[.slice A n c] w fun e w' => e = .returned (.bool false) ∧ Only (w.heap.size ≤ ·) w w') := (few_c w A n c l h hn).mono fun e w' ⟨h1, h2⟩ => ⟨by rw [h1, decide_eq_false hf], h2⟩
    clear h hf
    go_enter Try.func3, Try.ntmps3
    go_wp2_with (first | (go_at_call 7; refine HF.out.mono ?_; rintro e w1 ⟨rfl, ho⟩; have O1 := Lib.hid ho; clear ho) | (go_at_call 8; refine (alive_c _).mono ?_; rintro e w9 ⟨rfl, ho⟩))
    go_ret
    exact ⟨rfl, on_new O1.out ho⟩
end Go.Proofs.Ytmkpcdcdhheokaa
