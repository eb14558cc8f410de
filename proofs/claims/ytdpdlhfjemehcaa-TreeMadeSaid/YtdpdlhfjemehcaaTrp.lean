/-
  The document's Path.
-/
import Derived.Test.YtdpdlhfjemehcaaTdf
import Derived.Test.YtdpdlhfjemehcaaTdw
set_option linter.unusedVariables false
namespace Go.Proofs.Ytdpdlhfjemehcaa
open Go.RowKit

set_option maxHeartbeats 1600000 in
theorem DMany_c (w : World) (f : Bool) (A B : Option Addr) (n c m d : Nat) (x : Nd) (hN : Nod w x f (.slice A n c) (.slice B m d)) : Calls Try.prog 29 #[.agg #[.bool f, .slice A n c, .slice B m d]] w (Told w (.int .i64 (many x : Nat))) := by
  have HO : Hid (Only (w.heap.size ≤ ·) w (w.alloc (.cells #[.bool f, .slice A n c, .slice B m d] 29))) := (Only.refl _ w).alloc (fun _ h => h) _
  have HI : Hid (Blk (w.alloc (.cells #[.bool f, .slice A n c, .slice B m d] 29)) w.heap.size 29 [.bool f, .slice A n c, .slice B m d]) := Blk.new w 29 _
  have hf := hN.1
  have HM : Hid (many x = if f = true then n else m) := Lib.hid (by unfold many; rw [hf, hN.2.1.len, hN.2.2.len])
  clear hN hf
  rw [HM.out]
  clear HM
  cases f
  · go_enter Try.func29, Try.ntmps29
    go_wp2
    go_ret
    exact ⟨rfl, HO.out⟩
  · go_enter Try.func29, Try.ntmps29
    go_wp2
    go_ret
    exact ⟨rfl, HO.out⟩
/-- Where the document goes on. -/
def dchP (which : Int) (key : Bytes) (x : Nd) : Nat := if which = 2 then many x - 1 else if which = 1 then 0 else if x.leaf = true then cntP key x.its else lastP key x.kds x.kds.length
def PathSays (w : World) (r : Int × List Sp) (e : Ending) (w' : World) : Prop := (∃ S s sc, e = .returned (.tuple #[.slice S s sc, .int .i64 r.1]) ∧ Sps w' (.slice S s sc) r.2) ∧ Only (w.heap.size ≤ ·) w w'
theorem down_ne {l : List Nm} {ch : Nd → Nat} : ∀ (k : Nat) (r : Int), (downP l ch k r).1 = 0 → (downP l ch k r).2 ≠ []
  | 0, r, h => by simp [downP] at h
  | k + 1, r, h => by
    rw [downP] at h ⊢
    cases hn : nodeP l r with
    | none => rw [hn] at h; simp at h
    | some x =>
      rw [hn] at h
      simp only at h ⊢
      split at h
      · simp at h
      · rename_i h1
        rw [if_neg h1]
        split at h
        · rename_i h2
          rw [if_pos h2]
          simp
        · rename_i h2
          rw [if_neg h2]
          split at h
          · rename_i h3
            rw [if_pos h3]
            simp
          · rename_i h3
            exact absurd h h3
theorem down_len {l : List Nm} {ch : Nd → Nat} : ∀ (k : Nat) (r : Int), (downP l ch k r).2.length ≤ k
  | 0, r => by simp [downP]
  | k + 1, r => by
    rw [downP]
    cases hn : nodeP l r with
    | none => simp
    | some x =>
      simp only
      have := down_len (l := l) (ch := ch) k (kidRef x (ch x))
      split
      · simp
      · split
        · simp
        · split
          · simp only [List.length_cons]
            omega
          · simp
theorem last_lt (key : Bytes) (l : List Kd) (k : Nat) : lastP key l (k + 1) < k + 1 := by
  rw [lastP]
  split
  · omega
  · have := last_le key l k
    omega
theorem cells5 {w : World} {q : Nat} {t : TypeId} {a b c d e : Value} (h : Blk w q t [a, b, c, d, e]) : w.cell? ⟨q, 0, none⟩ = some a ∧ w.cell? ⟨q, 1, none⟩ = some b ∧ w.cell? ⟨q, 2, none⟩ = some c ∧ w.cell? ⟨q, 3, none⟩ = some d ∧ w.cell? ⟨q, 4, none⟩ = some e := by
  refine ⟨?_, ?_, ?_, ?_, ?_⟩ <;> rw [h.cell] <;> rfl
theorem cell_later {w W : World} {a : Addr} {x : Value} (h : w.cell? a = some x) (ho : Only (w.heap.size ≤ ·) w W) : W.cell? a = some x := (ho.cell (p := a) (Nat.not_le.2 (World.block_lt_of_cell? w _ h))).trans h
theorem own_one (w : World) (cs : List Value) {t : TypeId} {z : Nat} (hz : cs.length = z) : (w.alloc (.cells cs.toArray t)).ownsRow w.heap.size t z (.slice (some ⟨w.heap.size, 0, none⟩) 1 1) 1 cs := by
  subst hz
  exact ⟨by omega, .inr ⟨w.heap.size, 1, cs.toArray, rfl, Nat.le_refl _, heap_alloc_new w _, Nat.le_refl _, by decide, by simp, by simp⟩⟩
theorem den_one {w : World} : ∀ {l : List Sp} {C : List Value}, Den (spE.At w) l C → ∀ u ∈ C, u.oneCell' = true
  | [], C, h, u, hu => by
    have : C = [] := h
    subst this
    cases hu
  | x :: l, C, h, u, hu => by
    obtain ⟨cs, D, rfl, h1, h2⟩ := h
    rcases List.mem_append.1 hu with h3 | h3
    · exact spE.one h1 u h3
    · exact den_one h2 u h3
theorem sp_one {w : World} {x : Nd} {f : Bool} {v u : Value} {ref : Int} {k : Int} (h : Nod w x f v u) : Sps (w.alloc (.cells #[.int .i64 ref, .bool f, v, u, .int .i64 k] 87)) (.slice (some ⟨w.heap.size, 0, none⟩) 1 1) [(ref, x, k)] :=
  Own.rw_ (E := spE) (t := 87) (B := w.heap.size) ⟨rfl, _, ⟨_, [], (List.append_nil _).symm, ⟨f, v, u, rfl, h.later ((Only.refl _ w).alloc (fun _ h => h) _)⟩, rfl⟩, own_one w _ rfl⟩
theorem sp_join {w w' : World} {x : Nd} {f : Bool} {v u v' : Value} {ref k : Int} {C : List Value} {rp : List Sp} {s : Nat} (h : Nod w x f v u) (hd : Den (spE.At w) rp C) (hs : s = rp.length)
    (ho : w'.ownsRow w.heap.size 87 5 v' (1 + s) ([.int .i64 ref, .bool f, v, u, .int .i64 k] ++ C)) (hg : (w.alloc (.cells #[.int .i64 ref, .bool f, v, u, .int .i64 k] 87)).grownBy w' (Value.slice (some ⟨w.heap.size, 0, none⟩) 1 1).ownBlock) : Sps w' v' ((ref, x, k) :: rp) ∧ Only (w.heap.size ≤ ·) w w' := by
  have hO : Only (w.heap.size ≤ ·) w w' := ((Only.refl (w.heap.size ≤ ·) w).alloc (fun _ h => h) _).grown hg (fun _ h => h) (fun g e => by cases e; exact Nat.le_refl _)
  exact ⟨Own.rw_ (E := spE) (t := 87) (B := w.heap.size) ⟨by rw [List.length_cons, hs]; omega, _, ⟨_, C, rfl, ⟨f, v, u, rfl, h.later hO⟩, hd.mono fun y cs hy => spE.later hy hO⟩, ho⟩, hO⟩
theorem info_RS : (Try.prog.info? 87).map (fun i => (i.zero, i.size, i.bytes)) = some (some zS, 5, 72) := by kernel_rfl

set_option maxRecDepth 100000 in
set_option maxHeartbeats 25600000 in
theorem rPath_c (l : List Nm) (which : Int) (hwh : which = 0 ∨ which = 1 ∨ which = 2) (key : Bytes) (hln : l.length ≤ 1000000) : ∀ (left : Nat) (hl12 : left ≤ 12) (w : World) (A : Option Addr) (n c : Nat) (ref : Int) (K : Option Addr) (kn kc : Nat) (h : Nms w (.slice A n c) l) (hk : Src w (.slice K kn kc) key),
    Calls Try.prog 13 #[.slice A n c, .int .i64 ref, .int .i64 which, .slice K kn kc, .int .i64 (left : Int)] w (PathSays w (downP l (dchP which key) left ref)) := by
  obtain ⟨i1, hi0, hz0, hz1, hz2⟩ := info_parts info_RS
  have HI1 := Lib.hid (And.intro hi0 (And.intro hz0 (And.intro hz1 hz2)))
  clear hi0 hz0 hz1 hz2
  intro left
  induction left with
  | zero =>
    intro hl12 w A n c ref K kn kc h hk
    clear h hk hwh
    go_enter Try.func13, Try.ntmps13
    go_wp2
    go_ret2
    exact ⟨⟨none, 0, 0, rfl, Rw.nil_ _⟩, Only.refl _ _⟩
  | succ left ih =>
    intro hl12 w A n c ref K kn kc h hk
    have HIH := Lib.hid (ih (by omega))
    have HN := Lib.hid h
    have HK := Lib.hid hk
    have HLN : Hid (n ≤ 1000000) := Lib.hid (by rw [h.len]; exact hln)
    have hl1 : ¬ ((left : Int) + 1 = 0) := by omega
    have HWH := Lib.hid hwh
    clear ih h hk hwh
    go_enter Try.func13, Try.ntmps13
    cases hno : nodeP l ref with
    | none =>
      have HDN : Hid (downP l (dchP which key) (left + 1) ref = (11, [])) := Lib.hid (down_none hno)
      go_wp2_with (go_at_call 27; (with_reducible refine (rNode_c _ A n c ref l HN.out HLN.out).mono ?_); rintro e w2 ⟨⟨f, P, p, pc, Q, q, qc, er, rfl, her, hnd⟩, ho⟩; rw [hno] at her hnd; simp only [Option.isSome_none, Bool.false_eq_true, if_false, Option.getD_none] at her hnd; subst her; have HND := Lib.hid hnd; have HO := Lib.hid ho; clear hnd ho)
      go_ret2
      exact ⟨⟨none, 0, 0, by rw [HDN.out]; rfl, by rw [HDN.out]; exact Rw.nil_ _⟩, HO.out.alloc (fun _ h => h) _⟩
    | some x =>
      go_upto_region 4 with (go_at_call 27; (with_reducible refine (rNode_c _ A n c ref l HN.out HLN.out).mono ?_); rintro e w2 ⟨⟨f, P, p, pc, Q, q, qc, er, rfl, her, hnd⟩, ho⟩; rw [hno] at her hnd; simp only [Option.isSome_some, if_true, Option.getD_some] at her hnd; subst her; have HND := Lib.hid hnd; have HO := Lib.hid ho; clear hnd ho)
      have HLF : Hid (f = x.leaf) := Lib.hid HND.out.1
      have HPL : Hid (p = x.its.length ∧ q = x.kds.length) := Lib.hid ⟨HND.out.2.1.len, HND.out.2.2.len⟩
      obtain ⟨w3, hw3⟩ : ∃ x, x = w2.alloc (.cells #[.bool f, .slice P p pc, .slice Q q qc] 29) := ⟨_, rfl⟩
      obtain ⟨b3, hb3⟩ : ∃ x, x = w2.heap.size := ⟨_, rfl⟩
      have Hb3 : Hid (Blk w3 b3 29 [.bool f, .slice P p pc, .slice Q q qc]) := Lib.hid (by rw [hw3, hb3]; exact Blk.new w2 _ [.bool f, .slice P p pc, .slice Q q qc])
      have HXb3 : Hid (Only (w2.heap.size ≤ ·) w2 w3) := Lib.hid (by rw [hw3]; exact (Only.refl _ w2).alloc (fun _ h => h) _)
      have HEQb3 : Hid (w3 = w2.alloc (.cells #[.bool f, .slice P p pc, .slice Q q qc] 29) ∧ b3 = w2.heap.size) := Lib.hid ⟨hw3, hb3⟩
      clear hw3 hb3
      replace HND := Lib.hid (HND.out.later HXb3.out)
      replace HO := Lib.hid (on_new HO.out HXb3.out)
      rw [← HEQb3.out.1, ← HEQb3.out.2]
      have HB3 := Hb3
      clear Hb3
      obtain ⟨q0, q1, q2⟩ := HB3.out.tri
      have HMN := Lib.hid (DMany_c w3 f P Q p pc q qc x HND.out)
      obtain ⟨mm, hmm⟩ : ∃ y, y = many x := ⟨_, rfl⟩
      rw [← hmm] at HMN
      have HMM : Hid (mm = if f = true then p else q) := Lib.hid (by rw [hmm]; unfold many; rw [HLF.out, HPL.out.1, HPL.out.2])
      have HME := Lib.hid hmm
      have hcp := HND.out.2.1.cap
      have hcq := HND.out.2.2.cap
      have hmb : mm ≤ 9223372036854775807 := by rw [HMM.out]; split <;> omega
      obtain ⟨kk, hkk⟩ : ∃ y, y = dchP which key x := ⟨_, rfl⟩
      have HKK := Lib.hid hkk
      have HNO := Lib.hid hno
      clear hmm hkk hcp hcq
      cases f with
      | true =>
        have HDK : Hid (downP l (dchP which key) (left + 1) ref = (0, [(ref, x, (kk : Int))])) := Lib.hid (by rw [down_leaf HNO.out HLF.out.symm, HKK.out])
        rcases HWH.out with rfl | rfl | rfl
        · have HCK : Hid (cntP key x.its = kk) := Lib.hid (by rw [HKK.out]; unfold dchP; rw [if_neg (by decide), if_neg (by decide), if_pos HLF.out.symm])
          go_upto_region 17 with (first | (go_at_call 29; (with_reducible refine HMN.out.mono ?_); rintro e w4 ⟨rfl, ho⟩; replace HB3 := Lib.hid (HB3.out.later ho); replace HND := Lib.hid (HND.out.later ho); replace HO := Lib.hid (on_new HO.out ho); clear q0 q1 q2; (obtain ⟨q0, q1, q2⟩ := HB3.out.tri); clear ho) | (go_at_call 30; (have hc := DFind_c _ P Q K p pc q qc kn kc true x key HND.out (HK.out.later HO.out)); rw [HCK.out] at hc; (with_reducible refine hc.mono ?_); rintro e w5 ⟨rfl, ho⟩; clear hc; replace HB3 := Lib.hid (HB3.out.later ho); replace HND := Lib.hid (HND.out.later ho); replace HO := Lib.hid (on_new HO.out ho); clear q0 q1 q2; (obtain ⟨q0, q1, q2⟩ := HB3.out.tri); clear ho))
          obtain ⟨w6, hw6⟩ : ∃ y, y = w5.alloc (.cells #[.int .i64 ref, .bool true, .slice P p pc, .slice Q q qc, .int .i64 (kk : Int)] 87) := ⟨_, rfl⟩
          obtain ⟨b5, hb5⟩ : ∃ y, y = w5.heap.size := ⟨_, rfl⟩
          have HB5 : Hid (Blk w6 b5 87 [.int .i64 ref, .bool true, .slice P p pc, .slice Q q qc, .int .i64 (kk : Int)]) := Lib.hid (by rw [hw6, hb5]; exact Blk.new _ _ [.int .i64 ref, .bool true, .slice P p pc, .slice Q q qc, .int .i64 (kk : Int)])
          have HX5 : Hid (Only (w5.heap.size ≤ ·) w5 w6) := Lib.hid (by rw [hw6]; exact (Only.refl _ _).alloc (fun _ h => h) _)
          have HEQ5 : Hid (w6 = w5.alloc (.cells #[.int .i64 ref, .bool true, .slice P p pc, .slice Q q qc, .int .i64 (kk : Int)] 87) ∧ b5 = w5.heap.size) := Lib.hid ⟨hw6, hb5⟩
          clear hw6 hb5
          go_upto_region 18 with (fail)
          rw [← HEQ5.out.1, ← HEQ5.out.2]
          replace HB3 := Lib.hid (HB3.out.later HX5.out)
          replace HND := Lib.hid (HND.out.later HX5.out)
          replace HO := Lib.hid (on_new HO.out HX5.out)
          clear q0 q1 q2
          obtain ⟨q0, q1, q2⟩ := HB3.out.tri
          obtain ⟨g0, g1, g2, g3, g4⟩ := cells5 HB5.out
          go_wp2_with (fail)
          go_ret2
          exact ⟨⟨_, _, _, by rw [HDK.out]; rfl, by rw [HDK.out]; exact sp_one HND.out⟩, HO.out.alloc (fun _ h => h) _⟩
        · obtain rfl : kk = 0 := by rw [HKK.out]; rfl
          go_upto_region 17 with (go_at_call 29; (with_reducible refine HMN.out.mono ?_); rintro e w4 ⟨rfl, ho⟩; replace HB3 := Lib.hid (HB3.out.later ho); replace HND := Lib.hid (HND.out.later ho); replace HO := Lib.hid (on_new HO.out ho); clear q0 q1 q2; (obtain ⟨q0, q1, q2⟩ := HB3.out.tri); clear ho)
          obtain ⟨w6, hw6⟩ : ∃ y, y = w4.alloc (.cells #[.int .i64 ref, .bool true, .slice P p pc, .slice Q q qc, .int .i64 (0 : Int)] 87) := ⟨_, rfl⟩
          obtain ⟨b5, hb5⟩ : ∃ y, y = w4.heap.size := ⟨_, rfl⟩
          have HB5 : Hid (Blk w6 b5 87 [.int .i64 ref, .bool true, .slice P p pc, .slice Q q qc, .int .i64 (0 : Int)]) := Lib.hid (by rw [hw6, hb5]; exact Blk.new _ _ [.int .i64 ref, .bool true, .slice P p pc, .slice Q q qc, .int .i64 (0 : Int)])
          have HX5 : Hid (Only (w4.heap.size ≤ ·) w4 w6) := Lib.hid (by rw [hw6]; exact (Only.refl _ _).alloc (fun _ h => h) _)
          have HEQ5 : Hid (w6 = w4.alloc (.cells #[.int .i64 ref, .bool true, .slice P p pc, .slice Q q qc, .int .i64 (0 : Int)] 87) ∧ b5 = w4.heap.size) := Lib.hid ⟨hw6, hb5⟩
          clear hw6 hb5
          go_upto_region 18 with (fail)
          rw [← HEQ5.out.1, ← HEQ5.out.2]
          replace HB3 := Lib.hid (HB3.out.later HX5.out)
          replace HND := Lib.hid (HND.out.later HX5.out)
          replace HO := Lib.hid (on_new HO.out HX5.out)
          clear q0 q1 q2
          obtain ⟨q0, q1, q2⟩ := HB3.out.tri
          obtain ⟨g0, g1, g2, g3, g4⟩ := cells5 HB5.out
          go_wp2_with (fail)
          go_ret2
          exact ⟨⟨_, _, _, by rw [HDK.out]; rfl, by rw [HDK.out]; exact sp_one HND.out⟩, HO.out.alloc (fun _ h => h) _⟩
        · cases mm with
          | zero =>
            obtain rfl : kk = 0 := by rw [HKK.out]; unfold dchP; rw [if_pos rfl, ← HME.out]
            go_upto_region 17 with (go_at_call 29; (with_reducible refine HMN.out.mono ?_); rintro e w4 ⟨rfl, ho⟩; replace HB3 := Lib.hid (HB3.out.later ho); replace HND := Lib.hid (HND.out.later ho); replace HO := Lib.hid (on_new HO.out ho); clear q0 q1 q2; (obtain ⟨q0, q1, q2⟩ := HB3.out.tri); clear ho)
            obtain ⟨w6, hw6⟩ : ∃ y, y = w4.alloc (.cells #[.int .i64 ref, .bool true, .slice P p pc, .slice Q q qc, .int .i64 (0 : Int)] 87) := ⟨_, rfl⟩
            obtain ⟨b5, hb5⟩ : ∃ y, y = w4.heap.size := ⟨_, rfl⟩
            have HB5 : Hid (Blk w6 b5 87 [.int .i64 ref, .bool true, .slice P p pc, .slice Q q qc, .int .i64 (0 : Int)]) := Lib.hid (by rw [hw6, hb5]; exact Blk.new _ _ [.int .i64 ref, .bool true, .slice P p pc, .slice Q q qc, .int .i64 (0 : Int)])
            have HX5 : Hid (Only (w4.heap.size ≤ ·) w4 w6) := Lib.hid (by rw [hw6]; exact (Only.refl _ _).alloc (fun _ h => h) _)
            have HEQ5 : Hid (w6 = w4.alloc (.cells #[.int .i64 ref, .bool true, .slice P p pc, .slice Q q qc, .int .i64 (0 : Int)] 87) ∧ b5 = w4.heap.size) := Lib.hid ⟨hw6, hb5⟩
            clear hw6 hb5
            go_upto_region 18 with (fail)
            rw [← HEQ5.out.1, ← HEQ5.out.2]
            replace HB3 := Lib.hid (HB3.out.later HX5.out)
            replace HND := Lib.hid (HND.out.later HX5.out)
            replace HO := Lib.hid (on_new HO.out HX5.out)
            clear q0 q1 q2
            obtain ⟨q0, q1, q2⟩ := HB3.out.tri
            obtain ⟨g0, g1, g2, g3, g4⟩ := cells5 HB5.out
            go_wp2_with (fail)
            go_ret2
            exact ⟨⟨_, _, _, by rw [HDK.out]; rfl, by rw [HDK.out]; exact sp_one HND.out⟩, HO.out.alloc (fun _ h => h) _⟩
          | succ mm =>
            obtain rfl : kk = mm := by rw [HKK.out]; unfold dchP; rw [if_pos rfl, ← HME.out]; rfl
            have hm1 : (0 : Int) < (kk : Int) + 1 := by omega
            go_upto_region 17 with (go_at_call 29; (with_reducible refine HMN.out.mono ?_); rintro e w4 ⟨rfl, ho⟩; replace HB3 := Lib.hid (HB3.out.later ho); replace HND := Lib.hid (HND.out.later ho); replace HO := Lib.hid (on_new HO.out ho); clear q0 q1 q2; (obtain ⟨q0, q1, q2⟩ := HB3.out.tri); clear ho)
            obtain ⟨w6, hw6⟩ : ∃ y, y = w4.alloc (.cells #[.int .i64 ref, .bool true, .slice P p pc, .slice Q q qc, .int .i64 (kk : Int)] 87) := ⟨_, rfl⟩
            obtain ⟨b5, hb5⟩ : ∃ y, y = w4.heap.size := ⟨_, rfl⟩
            have HB5 : Hid (Blk w6 b5 87 [.int .i64 ref, .bool true, .slice P p pc, .slice Q q qc, .int .i64 (kk : Int)]) := Lib.hid (by rw [hw6, hb5]; exact Blk.new _ _ [.int .i64 ref, .bool true, .slice P p pc, .slice Q q qc, .int .i64 (kk : Int)])
            have HX5 : Hid (Only (w4.heap.size ≤ ·) w4 w6) := Lib.hid (by rw [hw6]; exact (Only.refl _ _).alloc (fun _ h => h) _)
            have HEQ5 : Hid (w6 = w4.alloc (.cells #[.int .i64 ref, .bool true, .slice P p pc, .slice Q q qc, .int .i64 (kk : Int)] 87) ∧ b5 = w4.heap.size) := Lib.hid ⟨hw6, hb5⟩
            clear hw6 hb5
            go_upto_region 18 with (fail)
            rw [← HEQ5.out.1, ← HEQ5.out.2]
            replace HB3 := Lib.hid (HB3.out.later HX5.out)
            replace HND := Lib.hid (HND.out.later HX5.out)
            replace HO := Lib.hid (on_new HO.out HX5.out)
            clear q0 q1 q2
            obtain ⟨q0, q1, q2⟩ := HB3.out.tri
            obtain ⟨g0, g1, g2, g3, g4⟩ := cells5 HB5.out
            go_wp2_with (fail)
            go_ret2
            exact ⟨⟨_, _, _, by rw [HDK.out]; rfl, by rw [HDK.out]; exact sp_one HND.out⟩, HO.out.alloc (fun _ h => h) _⟩
      | false =>
        by_cases hbare : q = 0
        · have HDN : Hid (downP l (dchP which key) (left + 1) ref = (131, [])) := Lib.hid (down_bare HNO.out HLF.out.symm (List.length_eq_zero_iff.1 (by rw [← HPL.out.2]; exact hbare)))
          obtain rfl : mm = 0 := by rw [HMM.out]; exact hbare
          subst hbare
          go_wp2_with (go_at_call 29; (with_reducible refine HMN.out.mono ?_); rintro e w4 ⟨rfl, ho⟩; replace HB3 := Lib.hid (HB3.out.later ho); replace HND := Lib.hid (HND.out.later ho); replace HO := Lib.hid (on_new HO.out ho); clear q0 q1 q2; (obtain ⟨q0, q1, q2⟩ := HB3.out.tri); clear ho)
          go_ret2
          exact ⟨⟨none, 0, 0, by rw [HDN.out]; rfl, by rw [HDN.out]; exact Rw.nil_ _⟩, HO.out⟩
        · obtain rfl : mm = q := by rw [HMM.out]; rfl
          obtain ⟨q', rfl⟩ : ∃ q', mm = q' + 1 := ⟨mm - 1, by omega⟩
          have hkx : x.kds ≠ [] := fun e => by have := HPL.out.2; rw [e] at this; simp at this
          have HDK : Hid (downP l (dchP which key) (left + 1) ref = if (downP l (dchP which key) left (kidRef x kk)).1 = 0 then (0, (ref, x, (kk : Int)) :: (downP l (dchP which key) left (kidRef x kk)).2) else ((downP l (dchP which key) left (kidRef x kk)).1, [])) := Lib.hid (by
            conv => lhs; rw [downP, HNO.out]
            simp only
            rw [if_neg (fun h => hkx h.2), if_neg (fun h => by rw [← HLF.out] at h; cases h), ← HKK.out])
          have hm0 : ¬ ((q' : Int) + 1 = 0) := by omega
          have hm1 : (0 : Int) < (q' : Int) + 1 := by omega
          clear hkx
          rcases HWH.out with rfl | rfl | rfl
          · have HCK : Hid (lastP key x.kds (q' + 1) = kk) := Lib.hid (by rw [HKK.out]; unfold dchP; rw [if_neg (by decide), if_neg (by decide), if_neg (fun h => by rw [← HLF.out] at h; cases h), HPL.out.2])
            have hkl : kk < q' + 1 := by rw [← HCK.out]; exact last_lt key x.kds q'
            have hkl' : (kk : Int) < (q' : Int) + 1 := by omega
            go_upto_region 17 with (first | (go_at_call 29; (with_reducible refine HMN.out.mono ?_); rintro e w4 ⟨rfl, ho⟩; replace HB3 := Lib.hid (HB3.out.later ho); replace HND := Lib.hid (HND.out.later ho); replace HO := Lib.hid (on_new HO.out ho); clear q0 q1 q2; (obtain ⟨q0, q1, q2⟩ := HB3.out.tri); clear ho) | (go_at_call 31; (have hc := DSide_c _ P Q K p pc (q' + 1) qc kn kc false x key HND.out (HK.out.later HO.out)); rw [HCK.out] at hc; (with_reducible refine hc.mono ?_); rintro e w5 ⟨rfl, ho⟩; clear hc; replace HB3 := Lib.hid (HB3.out.later ho); replace HND := Lib.hid (HND.out.later ho); replace HO := Lib.hid (on_new HO.out ho); clear q0 q1 q2; (obtain ⟨q0, q1, q2⟩ := HB3.out.tri); clear ho))
            obtain ⟨w6, hw6⟩ : ∃ y, y = w5.alloc (.cells #[.int .i64 ref, .bool false, .slice P p pc, .slice Q (q' + 1) qc, .int .i64 (kk : Int)] 87) := ⟨_, rfl⟩
            obtain ⟨b5, hb5⟩ : ∃ y, y = w5.heap.size := ⟨_, rfl⟩
            have HB5 : Hid (Blk w6 b5 87 [.int .i64 ref, .bool false, .slice P p pc, .slice Q (q' + 1) qc, .int .i64 (kk : Int)]) := Lib.hid (by rw [hw6, hb5]; exact Blk.new _ _ [.int .i64 ref, .bool false, .slice P p pc, .slice Q (q' + 1) qc, .int .i64 (kk : Int)])
            have HX5 : Hid (Only (w5.heap.size ≤ ·) w5 w6) := Lib.hid (by rw [hw6]; exact (Only.refl _ _).alloc (fun _ h => h) _)
            have HEQ5 : Hid (w6 = w5.alloc (.cells #[.int .i64 ref, .bool false, .slice P p pc, .slice Q (q' + 1) qc, .int .i64 (kk : Int)] 87) ∧ b5 = w5.heap.size) := Lib.hid ⟨hw6, hb5⟩
            clear hw6 hb5
            go_upto_region 18 with (fail)
            rw [← HEQ5.out.1, ← HEQ5.out.2]
            replace HB3 := Lib.hid (HB3.out.later HX5.out)
            replace HND := Lib.hid (HND.out.later HX5.out)
            replace HO := Lib.hid (on_new HO.out HX5.out)
            clear q0 q1 q2
            obtain ⟨q0, q1, q2⟩ := HB3.out.tri
            obtain ⟨g0, g1, g2, g3, g4⟩ := cells5 HB5.out
            obtain ⟨kb, ko, ky, KP, kp, hQ, hkb, hky, z0, z1, zs⟩ := kds_at HND.out.2.2 hkl
            obtain ⟨kyk, kyr⟩ := ky
            have HKR : Hid (kidRef x kk = kyr) := Lib.hid (by unfold kidRef; rw [hky]; rfl)
            simp only at z0 z1
            subst hQ
            clear hky zs
            obtain ⟨R, hR⟩ : ∃ R, R = downP l (dchP 0 key) left kyr := ⟨_, rfl⟩
            have HRR := Lib.hid hR
            clear hR
            have HDR : Hid (downP l (dchP 0 key) (left + 1) ref = if R.1 = 0 then (0, (ref, x, (kk : Int)) :: R.2) else (R.1, [])) := Lib.hid (by rw [HDK.out, HKR.out, HRR.out])
            obtain ⟨re, rp⟩ := R
            simp only at HDR
            go_upto_region 21 with (go_at_call 13; (have hc := HIH.out _ A n c kyr K kn kc (HN.out.later HO.out) (HK.out.later HO.out)); rw [← HRR.out] at hc; (with_reducible refine hc.mono ?_); rintro e w7 ⟨⟨S, s, sc, rfl, hsp⟩, ho⟩; have HSP := Lib.hid hsp; clear hsp hc; replace HB5 := Lib.hid (HB5.out.later ho); (obtain ⟨g0, g1, g2, g3, g4⟩ := cells5 HB5.out); replace HB3 := Lib.hid (HB3.out.later ho); replace HND := Lib.hid (HND.out.later ho); replace HO := Lib.hid (on_new HO.out ho); clear q0 q1 q2; (obtain ⟨q0, q1, q2⟩ := HB3.out.tri); clear ho)
            by_cases hre : re = 0
            · have HNE : Hid (rp ≠ []) := Lib.hid (fun h => down_ne (l := l) (ch := dchP 0 key) left kyr (by rw [← HRR.out]; exact hre) (by rw [← HRR.out]; exact h))
              subst hre
              obtain ⟨S', sc', C1, e1, hd, hraw, e2, e3, e4⟩ := HSP.out
              cases e1
              have hCl := hd.length (z := 5) (fun _ _ h => spE.len h)
              obtain ⟨sb, so, rfl, hsb, hcs⟩ := hraw (by rw [hCl]; have := List.length_pos_iff.2 HNE.out; omega)
              have HCL := Lib.hid hCl
              have HD1 := Lib.hid hd
              have HCS := Lib.hid hcs
              have HSL := Lib.hid (And.intro e3 e4)
              obtain ⟨sl, hsl⟩ : ∃ y, y = rp.length := ⟨_, rfl⟩
              have HSLE := Lib.hid hsl
              rw [← hsl] at HSL HCL ⊢
              have hle : sl ≤ left := by rw [hsl]; have := down_len (l := l) (ch := dchP 0 key) left kyr; rw [← HRR.out] at this; exact this
              clear hd hraw hcs hCl e2 e3 e4 hsl
              go_wp2_with (at_builtin; go_loud (refine wpList_append_at rfl (.tmp 99) (.tmp 100) 40 rfl w7.heap.size 87 i1 zS 5 72 Try.underlying40 HI1.out.1 HI1.out.2.1 HI1.out.2.2.1 HI1.out.2.2.2 (by rfl) (by omega) (.slice (some ⟨w7.heap.size, 0, none⟩) 1 1) 1 [.int .i64 ref, .bool false, .slice P p pc, .slice (some ⟨kb, ko, none⟩) (q' + 1) qc, .int .i64 (kk : Int)] rfl (own_one w7 [.int .i64 ref, .bool false, .slice P p pc, .slice (some ⟨kb, ko, none⟩) (q' + 1) qc, .int .i64 (kk : Int)] (by rfl)) ⟨sb, so, none⟩ sl _ C1 rfl HCL.out (fun j u hu => by rw [Addr.add_lit]; exact cell_later (HCS.out j u hu) ((Only.refl _ w7).alloc (fun _ h => h) _)) (den_one HD1.out) (by simp only [maxLen]; omega) (by omega) (by simp) ?_; intro v' w' ho' hg' hat'; have HJ := Lib.hid (sp_join (k := (kk : Int)) (ref := ref) HND.out HD1.out HSLE.out ho' hg'); (obtain ⟨R2, t2, rfl, _⟩ := raw_of_own ho'); clear ho' hg' hat'))
              go_ret2
              exact ⟨⟨_, _, _, by rw [HDR.out]; rfl, by rw [HDR.out]; exact HJ.out.1⟩, HO.out.trans (HJ.out.2.mono fun j hj => Nat.le_trans HO.out.size hj)⟩
            · go_wp2_with (fail)
              go_ret2
              exact ⟨⟨none, 0, 0, by rw [HDR.out, if_neg hre]; rfl, by rw [HDR.out, if_neg hre]; exact Rw.nil_ _⟩, HO.out⟩
          · obtain rfl : kk = 0 := by rw [HKK.out]; rfl
            have hkl : 0 < q' + 1 := by omega
            go_upto_region 17 with (go_at_call 29; (with_reducible refine HMN.out.mono ?_); rintro e w4 ⟨rfl, ho⟩; replace HB3 := Lib.hid (HB3.out.later ho); replace HND := Lib.hid (HND.out.later ho); replace HO := Lib.hid (on_new HO.out ho); clear q0 q1 q2; (obtain ⟨q0, q1, q2⟩ := HB3.out.tri); clear ho)
            obtain ⟨w6, hw6⟩ : ∃ y, y = w4.alloc (.cells #[.int .i64 ref, .bool false, .slice P p pc, .slice Q (q' + 1) qc, .int .i64 (0 : Int)] 87) := ⟨_, rfl⟩
            obtain ⟨b5, hb5⟩ : ∃ y, y = w4.heap.size := ⟨_, rfl⟩
            have HB5 : Hid (Blk w6 b5 87 [.int .i64 ref, .bool false, .slice P p pc, .slice Q (q' + 1) qc, .int .i64 (0 : Int)]) := Lib.hid (by rw [hw6, hb5]; exact Blk.new _ _ [.int .i64 ref, .bool false, .slice P p pc, .slice Q (q' + 1) qc, .int .i64 (0 : Int)])
            have HX5 : Hid (Only (w4.heap.size ≤ ·) w4 w6) := Lib.hid (by rw [hw6]; exact (Only.refl _ _).alloc (fun _ h => h) _)
            have HEQ5 : Hid (w6 = w4.alloc (.cells #[.int .i64 ref, .bool false, .slice P p pc, .slice Q (q' + 1) qc, .int .i64 (0 : Int)] 87) ∧ b5 = w4.heap.size) := Lib.hid ⟨hw6, hb5⟩
            clear hw6 hb5
            go_upto_region 18 with (fail)
            rw [← HEQ5.out.1, ← HEQ5.out.2]
            replace HB3 := Lib.hid (HB3.out.later HX5.out)
            replace HND := Lib.hid (HND.out.later HX5.out)
            replace HO := Lib.hid (on_new HO.out HX5.out)
            clear q0 q1 q2
            obtain ⟨q0, q1, q2⟩ := HB3.out.tri
            obtain ⟨g0, g1, g2, g3, g4⟩ := cells5 HB5.out
            obtain ⟨kb, ko, ky, KP, kp, hQ, hkb, hky, z0, z1, zs⟩ := kds_at HND.out.2.2 hkl
            obtain ⟨kyk, kyr⟩ := ky
            have HKR : Hid (kidRef x 0 = kyr) := Lib.hid (by unfold kidRef; rw [hky]; rfl)
            simp only at z0 z1
            subst hQ
            clear hky zs
            obtain ⟨R, hR⟩ : ∃ R, R = downP l (dchP 1 key) left kyr := ⟨_, rfl⟩
            have HRR := Lib.hid hR
            clear hR
            have HDR : Hid (downP l (dchP 1 key) (left + 1) ref = if R.1 = 0 then (0, (ref, x, (0 : Int)) :: R.2) else (R.1, [])) := Lib.hid (by rw [HDK.out, HKR.out, HRR.out]; rfl)
            obtain ⟨re, rp⟩ := R
            simp only at HDR
            go_upto_region 21 with (go_at_call 13; (have hc := HIH.out _ A n c kyr K kn kc (HN.out.later HO.out) (HK.out.later HO.out)); rw [← HRR.out] at hc; (with_reducible refine hc.mono ?_); rintro e w7 ⟨⟨S, s, sc, rfl, hsp⟩, ho⟩; have HSP := Lib.hid hsp; clear hsp hc; replace HB5 := Lib.hid (HB5.out.later ho); (obtain ⟨g0, g1, g2, g3, g4⟩ := cells5 HB5.out); replace HB3 := Lib.hid (HB3.out.later ho); replace HND := Lib.hid (HND.out.later ho); replace HO := Lib.hid (on_new HO.out ho); clear q0 q1 q2; (obtain ⟨q0, q1, q2⟩ := HB3.out.tri); clear ho)
            by_cases hre : re = 0
            · have HNE : Hid (rp ≠ []) := Lib.hid (fun h => down_ne (l := l) (ch := dchP 1 key) left kyr (by rw [← HRR.out]; exact hre) (by rw [← HRR.out]; exact h))
              subst hre
              obtain ⟨S', sc', C1, e1, hd, hraw, e2, e3, e4⟩ := HSP.out
              cases e1
              have hCl := hd.length (z := 5) (fun _ _ h => spE.len h)
              obtain ⟨sb, so, rfl, hsb, hcs⟩ := hraw (by rw [hCl]; have := List.length_pos_iff.2 HNE.out; omega)
              have HCL := Lib.hid hCl
              have HD1 := Lib.hid hd
              have HCS := Lib.hid hcs
              have HSL := Lib.hid (And.intro e3 e4)
              obtain ⟨sl, hsl⟩ : ∃ y, y = rp.length := ⟨_, rfl⟩
              have HSLE := Lib.hid hsl
              rw [← hsl] at HSL HCL ⊢
              have hle : sl ≤ left := by rw [hsl]; have := down_len (l := l) (ch := dchP 1 key) left kyr; rw [← HRR.out] at this; exact this
              clear hd hraw hcs hCl e2 e3 e4 hsl
              go_wp2_with (at_builtin; go_loud (refine wpList_append_at rfl (.tmp 99) (.tmp 100) 40 rfl w7.heap.size 87 i1 zS 5 72 Try.underlying40 HI1.out.1 HI1.out.2.1 HI1.out.2.2.1 HI1.out.2.2.2 (by rfl) (by omega) (.slice (some ⟨w7.heap.size, 0, none⟩) 1 1) 1 [.int .i64 ref, .bool false, .slice P p pc, .slice (some ⟨kb, ko, none⟩) (q' + 1) qc, .int .i64 (0 : Int)] rfl (own_one w7 [.int .i64 ref, .bool false, .slice P p pc, .slice (some ⟨kb, ko, none⟩) (q' + 1) qc, .int .i64 (0 : Int)] (by rfl)) ⟨sb, so, none⟩ sl _ C1 rfl HCL.out (fun j u hu => by rw [Addr.add_lit]; exact cell_later (HCS.out j u hu) ((Only.refl _ w7).alloc (fun _ h => h) _)) (den_one HD1.out) (by simp only [maxLen]; omega) (by omega) (by simp) ?_; intro v' w' ho' hg' hat'; have HJ := Lib.hid (sp_join (k := (0 : Int)) (ref := ref) HND.out HD1.out HSLE.out ho' hg'); (obtain ⟨R2, t2, rfl, _⟩ := raw_of_own ho'); clear ho' hg' hat'))
              go_ret2
              exact ⟨⟨_, _, _, by rw [HDR.out]; rfl, by rw [HDR.out]; exact HJ.out.1⟩, HO.out.trans (HJ.out.2.mono fun j hj => Nat.le_trans HO.out.size hj)⟩
            · go_wp2_with (fail)
              go_ret2
              exact ⟨⟨none, 0, 0, by rw [HDR.out, if_neg hre]; rfl, by rw [HDR.out, if_neg hre]; exact Rw.nil_ _⟩, HO.out⟩
          · obtain rfl : kk = q' := by rw [HKK.out]; unfold dchP; rw [if_pos rfl, ← HME.out]; rfl
            have hkl : kk < kk + 1 := by omega
            have hkl' : (kk : Int) < (kk : Int) + 1 := by omega
            go_upto_region 17 with (go_at_call 29; (with_reducible refine HMN.out.mono ?_); rintro e w4 ⟨rfl, ho⟩; replace HB3 := Lib.hid (HB3.out.later ho); replace HND := Lib.hid (HND.out.later ho); replace HO := Lib.hid (on_new HO.out ho); clear q0 q1 q2; (obtain ⟨q0, q1, q2⟩ := HB3.out.tri); clear ho)
            obtain ⟨w6, hw6⟩ : ∃ y, y = w4.alloc (.cells #[.int .i64 ref, .bool false, .slice P p pc, .slice Q (kk + 1) qc, .int .i64 (kk : Int)] 87) := ⟨_, rfl⟩
            obtain ⟨b5, hb5⟩ : ∃ y, y = w4.heap.size := ⟨_, rfl⟩
            have HB5 : Hid (Blk w6 b5 87 [.int .i64 ref, .bool false, .slice P p pc, .slice Q (kk + 1) qc, .int .i64 (kk : Int)]) := Lib.hid (by rw [hw6, hb5]; exact Blk.new _ _ [.int .i64 ref, .bool false, .slice P p pc, .slice Q (kk + 1) qc, .int .i64 (kk : Int)])
            have HX5 : Hid (Only (w4.heap.size ≤ ·) w4 w6) := Lib.hid (by rw [hw6]; exact (Only.refl _ _).alloc (fun _ h => h) _)
            have HEQ5 : Hid (w6 = w4.alloc (.cells #[.int .i64 ref, .bool false, .slice P p pc, .slice Q (kk + 1) qc, .int .i64 (kk : Int)] 87) ∧ b5 = w4.heap.size) := Lib.hid ⟨hw6, hb5⟩
            clear hw6 hb5
            go_upto_region 18 with (fail)
            rw [← HEQ5.out.1, ← HEQ5.out.2]
            replace HB3 := Lib.hid (HB3.out.later HX5.out)
            replace HND := Lib.hid (HND.out.later HX5.out)
            replace HO := Lib.hid (on_new HO.out HX5.out)
            clear q0 q1 q2
            obtain ⟨q0, q1, q2⟩ := HB3.out.tri
            obtain ⟨g0, g1, g2, g3, g4⟩ := cells5 HB5.out
            obtain ⟨kb, ko, ky, KP, kp, hQ, hkb, hky, z0, z1, zs⟩ := kds_at HND.out.2.2 hkl
            obtain ⟨kyk, kyr⟩ := ky
            have HKR : Hid (kidRef x kk = kyr) := Lib.hid (by unfold kidRef; rw [hky]; rfl)
            simp only at z0 z1
            subst hQ
            clear hky zs
            obtain ⟨R, hR⟩ : ∃ R, R = downP l (dchP 2 key) left kyr := ⟨_, rfl⟩
            have HRR := Lib.hid hR
            clear hR
            have HDR : Hid (downP l (dchP 2 key) (left + 1) ref = if R.1 = 0 then (0, (ref, x, (kk : Int)) :: R.2) else (R.1, [])) := Lib.hid (by rw [HDK.out, HKR.out, HRR.out])
            obtain ⟨re, rp⟩ := R
            simp only at HDR
            go_upto_region 21 with (go_at_call 13; (have hc := HIH.out _ A n c kyr K kn kc (HN.out.later HO.out) (HK.out.later HO.out)); rw [← HRR.out] at hc; (with_reducible refine hc.mono ?_); rintro e w7 ⟨⟨S, s, sc, rfl, hsp⟩, ho⟩; have HSP := Lib.hid hsp; clear hsp hc; replace HB5 := Lib.hid (HB5.out.later ho); (obtain ⟨g0, g1, g2, g3, g4⟩ := cells5 HB5.out); replace HB3 := Lib.hid (HB3.out.later ho); replace HND := Lib.hid (HND.out.later ho); replace HO := Lib.hid (on_new HO.out ho); clear q0 q1 q2; (obtain ⟨q0, q1, q2⟩ := HB3.out.tri); clear ho)
            by_cases hre : re = 0
            · have HNE : Hid (rp ≠ []) := Lib.hid (fun h => down_ne (l := l) (ch := dchP 2 key) left kyr (by rw [← HRR.out]; exact hre) (by rw [← HRR.out]; exact h))
              subst hre
              obtain ⟨S', sc', C1, e1, hd, hraw, e2, e3, e4⟩ := HSP.out
              cases e1
              have hCl := hd.length (z := 5) (fun _ _ h => spE.len h)
              obtain ⟨sb, so, rfl, hsb, hcs⟩ := hraw (by rw [hCl]; have := List.length_pos_iff.2 HNE.out; omega)
              have HCL := Lib.hid hCl
              have HD1 := Lib.hid hd
              have HCS := Lib.hid hcs
              have HSL := Lib.hid (And.intro e3 e4)
              obtain ⟨sl, hsl⟩ : ∃ y, y = rp.length := ⟨_, rfl⟩
              have HSLE := Lib.hid hsl
              rw [← hsl] at HSL HCL ⊢
              have hle : sl ≤ left := by rw [hsl]; have := down_len (l := l) (ch := dchP 2 key) left kyr; rw [← HRR.out] at this; exact this
              clear hd hraw hcs hCl e2 e3 e4 hsl
              go_wp2_with (at_builtin; go_loud (refine wpList_append_at rfl (.tmp 99) (.tmp 100) 40 rfl w7.heap.size 87 i1 zS 5 72 Try.underlying40 HI1.out.1 HI1.out.2.1 HI1.out.2.2.1 HI1.out.2.2.2 (by rfl) (by omega) (.slice (some ⟨w7.heap.size, 0, none⟩) 1 1) 1 [.int .i64 ref, .bool false, .slice P p pc, .slice (some ⟨kb, ko, none⟩) (kk + 1) qc, .int .i64 (kk : Int)] rfl (own_one w7 [.int .i64 ref, .bool false, .slice P p pc, .slice (some ⟨kb, ko, none⟩) (kk + 1) qc, .int .i64 (kk : Int)] (by rfl)) ⟨sb, so, none⟩ sl _ C1 rfl HCL.out (fun j u hu => by rw [Addr.add_lit]; exact cell_later (HCS.out j u hu) ((Only.refl _ w7).alloc (fun _ h => h) _)) (den_one HD1.out) (by simp only [maxLen]; omega) (by omega) (by simp) ?_; intro v' w' ho' hg' hat'; have HJ := Lib.hid (sp_join (k := (kk : Int)) (ref := ref) HND.out HD1.out HSLE.out ho' hg'); (obtain ⟨R2, t2, rfl, _⟩ := raw_of_own ho'); clear ho' hg' hat'))
              go_ret2
              exact ⟨⟨_, _, _, by rw [HDR.out]; rfl, by rw [HDR.out]; exact HJ.out.1⟩, HO.out.trans (HJ.out.2.mono fun j hj => Nat.le_trans HO.out.size hj)⟩
            · go_wp2_with (fail)
              go_ret2
              exact ⟨⟨none, 0, 0, by rw [HDR.out, if_neg hre]; rfl, by rw [HDR.out, if_neg hre]; exact Rw.nil_ _⟩, HO.out⟩
end Go.Proofs.Ytdpdlhfjemehcaa
