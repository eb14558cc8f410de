/-
  alive.
-/
import Derived.Test.YtdpdlhfjemehcaaTme
import Derived.Test.YtdpdlhfjemehcaaTgt
import Derived.Test.YtdpdlhfjemehcaaTal
import Derived.Lib.SlBytesConst
import Derived.Laws.BytesArg
import Derived.Laws.Cover3
set_option linter.unusedVariables false
namespace Go.Proofs.Ytdpdlhfjemehcaa
open Go.RowKit

theorem lit_src (w : World) (cs : Array Value) (fz : Nat × Nat) (n : Nat) (xs : Bytes) (h : cs.toList = cb xs) (hn : xs.length = n) (hl : n ≤ 1000) : Src (w.alloc (.cells cs 5 fz)) (.slice (some ⟨w.heap.size, 0, none⟩) n n) xs := by
  subst hn
  refine ⟨_, _, rfl, ⟨rfl, fun _ => ⟨_, rfl, fun j u hu => ?_⟩⟩, (fun e => by cases e), Nat.le_refl _, by omega⟩
  rw [Addr.add_mid, Nat.zero_add, cell_of_row _ w.heap.size j cs 5 fz (heap_alloc_new w _), ← hu, ← h]
  simp
theorem convert_src (w : World) (A : Option Addr) (n c : Nat) (xs : Bytes) (h0 : Src w (.slice A n c) xs) :
    (convert 23 9 (.slice A n c)).run Try.prog w = .ok (.string ⟨xs.toArray⟩) w := by
  obtain ⟨A', c', e, h, _⟩ := h0
  cases e
  exact convert_txt w _ _ _ xs h
theorem Lvl.inv {fan : Nat} {ks : List Kd} {nx : Int} {a : Nat} {ns : List Nm} {ab : List Kd} (h : Lvl fan ks nx a ns ab) : (a = 0 ∧ ns = [] ∧ ab = []) ∨ ∃ a' ns' ab', Lvl fan ks nx a' ns' ab' ∧ a' < ks.length ∧ a = cutTo fan ks.length a' ∧ ns = ns' ++ [(nx + (ns'.length : Int), ⟨false, [], bareK (groupP fan ks a')⟩)] ∧ ab = ab' ++ [(headKd (groupP fan ks a'), nx + (ns'.length : Int))] := by
  cases h with
  | start => exact .inl ⟨rfl, rfl, rfl⟩
  | step h1 h2 => exact .inr ⟨_, _, _, h1, h2, rfl, rfl, rfl⟩

/-- A level has at most half as many nodes as it has kids. -/
theorem Lvl.half {fan : Nat} {ks : List Kd} {nx : Int} {a : Nat} {ns : List Nm} {ab : List Kd} (hf : 2 ≤ fan) (h : Lvl fan ks nx a ns ab) (h1 : ks.length ≠ 1) : 2 * ab.length ≤ a ∧ a ≤ ks.length ∧ (a = ks.length ∨ a + 2 ≤ ks.length) ∧ ns.length = ab.length := by
  induction h with
  | start => simp; omega
  | @step a ns ab h0 h2 ih =>
    have h3 : cutTo fan ks.length a = ks.length ∨ cutTo fan ks.length a = a + fan ∧ a + fan + 2 ≤ ks.length := by
      unfold cutTo
      split <;> omega
    simp only [List.length_append, List.length_singleton]
    omega
theorem Lvs.half {fan : Nat} {l0 ls : List Nm} {k0 ks : List Kd} (hf : 2 ≤ fan) (h : Lvs fan l0 k0 ls ks) : (ls = l0 ∧ ks = k0) ∨ 2 * ks.length ≤ k0.length := by
  induction h with
  | start => exact .inl ⟨rfl, rfl⟩
  | step h1 h2 h3 ih =>
    have := (h3.half hf (by omega)).1
    rcases ih with ⟨_, e⟩ | e
    · rw [e] at this h3
      exact .inr (by omega)
    · exact .inr (by omega)
def ia : It := ([97], [], 0, 0)
def ib : It := ([98], [], 0, 0)
def L3 : List Nm := [(2, ⟨true, [ia], []⟩), (3, ⟨true, [ib], []⟩), (4, ⟨false, [], [([], 2), ([98], 3)]⟩)]
theorem made_two {ls : List Nm} {root : Int} (h : IsMade [ia, ib] 1 2 ls root) : ls = L3 ∧ root = 4 := by
  obtain ⟨j, k, h1, h2, h3, h4, rfl⟩ := h
  obtain rfl : j = 2 := by simp at h2 h3; omega
  cases h4 with
  | @step ls' ns ks' ab h5 h6 h7 =>
    rcases h5.half (Nat.le_refl _) with ⟨rfl, rfl⟩ | h8
    · have hL : (leafKidsP 1 [ia, ib] 2).length = 2 := rfl
      rcases h7.inv with ⟨h8, _⟩ | ⟨a, ns0, ab0, h8, h9, h10, h11, h12⟩
      · omega
      · have ha := h8.half (Nat.le_refl _) (by omega)
        obtain rfl : a = 0 := by omega
        obtain rfl : ns0 = [] := List.eq_nil_of_length_eq_zero (by omega)
        obtain rfl : ab0 = [] := List.eq_nil_of_length_eq_zero (by omega)
        simp only [List.nil_append, List.cons.injEq, and_true] at h12
        subst h12
        subst h11
        exact ⟨rfl, rfl⟩
    · have : (leafKidsP 1 [ia, ib] 2).length = 2 := rfl
      omega
theorem L3_few : FewN L3 := by
  refine ⟨by decide, fun x hx => ?_⟩
  simp [L3] at hx
  rcases hx with rfl | rfl | rfl
  · exact ⟨by simp, by simp, by simp [ia], by simp⟩
  · exact ⟨by simp, by simp, by simp [ib], by simp⟩
  · refine ⟨by decide, by decide, by simp, fun y hy => ?_⟩
    simp only [List.mem_cons, List.not_mem_nil, or_false] at hy
    rcases hy with rfl | rfl
    · exact ⟨Nat.zero_le _, by decide, by decide⟩
    · exact ⟨by show 1 ≤ 140737488355328; omega, by decide, by decide⟩
theorem L3_ok : ∀ ref x, Vis L3 4 ref → nodeP L3 ref = some x → okP x := by
  intro ref x _ hx
  obtain ⟨y, hy, rfl⟩ := nodeP_mem hx
  simp [L3] at hy
  rcases hy with rfl | rfl | rfl
  · intro _ k y z h1 h2
    cases k <;> simp at h2
  · intro _ k y z h1 h2
    cases k <;> simp at h2
  · intro h
    cases h
theorem L3_all : allP L3 4 = (0, ⟨[ia, ib], [4, 2, 3], 2⟩) := by kernel_rfl
theorem L3_b : getP L3 [98] 4 = (0, some ib) := by kernel_rfl
theorem L3_c : getP L3 [99] 4 = (0, none) := by kernel_rfl
theorem L3_path : ∃ x y : Nd, downP L3 (chP [98]) 12 4 = (0, [(4, x, 1), (3, y, 0)]) := ⟨⟨false, [], [([], 2), ([98], 3)]⟩, ⟨true, [ib], []⟩, by kernel_rfl⟩
theorem L3_edge : ∃ x y : Nd, downP L3 (chE false) 12 4 = (0, [(4, x, 0), (2, y, 0)]) := ⟨⟨false, [], [([], 2), ([98], 3)]⟩, ⟨true, [ia], []⟩, by kernel_rfl⟩
theorem nil_nil_d (d : Nat) (w : World) : (Op.equalIn (d + 1) 38 Value.nilFunc Value.nilFunc).run Try.prog w = .ok true w := by
  simp [Op.equalIn, run_underlying Try.underlying38]
theorem nil_nil (w : World) : (binOp .eql 38 Value.nilFunc Value.nilFunc).run Try.prog w = .ok (.bool true) w := by
  simp only [binOp]
  simp [Op.equal, Op.maxDepth, nil_nil_d 9999 w]
set_option maxRecDepth 100000 in
set_option maxHeartbeats 6400000 in
theorem All_nil (w : World) (r : Int) : Calls Try.prog 16 #[.nilFunc, .int .i64 r] w fun e w' => e = .returned (.tuple #[.agg #[.slice none 0 0, .slice none 0 0, .int .i64 0], .int .i64 1]) ∧ Only (w.heap.size ≤ ·) w w' := by
  have hfe := nil_nil
  go_enter Try.func16, Try.ntmps16
  go_wp2_with (fail)
  exact bodyPost_ret (v := .tuple #[.agg #[.slice none 0 0, .slice none 0 0, .int .i64 0], .int .i64 1]) (results_cell2 rfl rfl rfl (load_whole (Blk.new w _ _))) rfl ⟨rfl, (Only.refl _ w).alloc (fun _ h => h) _⟩
theorem two_its (w : World) : Its (((w.alloc (.cells #[.int .u8 97] 5 (1, 2))).alloc (.cells #[.int .u8 98] 5 (1, 2))).alloc (.cells #[.slice (some ⟨w.heap.size, 0, none⟩) 1 1, .slice none 0 0, .int .i64 0, .int .i64 0, .slice (some ⟨w.heap.size + 1, 0, none⟩) 1 1, .slice none 0 0, .int .i64 0, .int .i64 0] 59)) (.slice (some ⟨w.heap.size + 1 + 1, 0, none⟩) 2 2) [ia, ib] := by
  obtain ⟨w1, hw1⟩ : ∃ x, x = w.alloc (.cells #[.int .u8 97] 5 (1, 2)) := ⟨_, rfl⟩
  have s1 : w1.heap.size = w.heap.size + 1 := by rw [hw1]; simp
  obtain ⟨w2, hw2⟩ : ∃ x, x = w1.alloc (.cells #[.int .u8 98] 5 (1, 2)) := ⟨_, rfl⟩
  have s2 : w2.heap.size = w.heap.size + 1 + 1 := by rw [hw2]; simp [s1]
  have o2 : Only (w1.heap.size ≤ ·) w1 w2 := by rw [hw2]; exact (Only.refl _ _).alloc (fun _ h => h) _
  have k1 : Src w2 (.slice (some ⟨w.heap.size, 0, none⟩) 1 1) [97] := by
    have := lit_src w #[.int .u8 97] (1, 2) 1 [97] rfl rfl (by decide)
    rw [← hw1] at this
    exact this.later o2
  have k2 : Src w2 (.slice (some ⟨w.heap.size + 1, 0, none⟩) 1 1) [98] := by
    have := lit_src w1 #[.int .u8 98] (1, 2) 1 [98] rfl rfl (by decide)
    rw [← hw2, s1] at this
    exact this
  rw [← hw1, ← hw2]
  have hb := Blk.new w2 59 [.slice (some ⟨w.heap.size, 0, none⟩) 1 1, .slice none 0 0, .int .i64 0, .int .i64 0, .slice (some ⟨w.heap.size + 1, 0, none⟩) 1 1, .slice none 0 0, .int .i64 0, .int .i64 0]
  have o3 : Only (w2.heap.size ≤ ·) w2 (w2.alloc (.cells #[.slice (some ⟨w.heap.size, 0, none⟩) 1 1, .slice none 0 0, .int .i64 0, .int .i64 0, .slice (some ⟨w.heap.size + 1, 0, none⟩) 1 1, .slice none 0 0, .int .i64 0, .int .i64 0] 59)) := (Only.refl _ _).alloc (fun _ h => h) _
  rw [s2] at hb
  exact ⟨_, 2, _, rfl, ⟨[.slice (some ⟨w.heap.size, 0, none⟩) 1 1, .slice none 0 0, .int .i64 0, .int .i64 0], _, rfl, ⟨_, 1, none, 0, rfl, k1.later o3, Src.nil_ _⟩, [.slice (some ⟨w.heap.size + 1, 0, none⟩) 1 1, .slice none 0 0, .int .i64 0, .int .i64 0], [], rfl, ⟨_, 1, none, 0, rfl, k2.later o3, Src.nil_ _⟩, rfl⟩, Raw.blk (rest := []) (by rw [List.append_nil]; exact hb), (fun e => nomatch e), Nat.le_refl _, by omega⟩
section
variable (W : World) (bl : Nat) (A : Option Addr) (n c : Nat) (hb : Blk W bl 22 [.slice A n c]) (hn : Nms W (.slice A n c) L3)
include hb hn
theorem all_lit (HM : MeetC) : Calls Try.prog 16 #[srcV bl, .int .i64 4] W fun e w' => (∃ IA ic RA rc, e = .returned (.tuple #[.agg #[.slice IA 2 ic, .slice RA 3 rc, .int .i64 2], .int .i64 0]) ∧ Ins w' (.slice RA 3 rc) [4, 2, 3]) ∧ Only (W.heap.size ≤ ·) W w' := by
  have hc := All_c HM W bl A n c 4 L3 hb hn L3_few (by decide)
  rw [L3_all] at hc
  refine hc.mono ?_
  rintro e w' ⟨⟨IA, ni, ic, RA, nr, rc, rfl, hi, hr⟩, ho⟩
  have h1 : ni = 2 := hi.len
  have h2 : nr = 3 := hr.len
  subst h1 h2
  exact ⟨⟨IA, ic, RA, rc, rfl, hr⟩, ho⟩
theorem getb_lit (v : Value) (hs : Src W v [98]) : Calls Try.prog 19 #[srcV bl, .int .i64 4, v] W fun e w' => (∃ P p Q m q s r, e = .returned (.tuple #[.agg #[.slice P 1 p, .slice Q m q, .int .i64 s, .int .i64 r], .bool true, .int .i64 0]) ∧ Src w' (.slice P 1 p) [98]) ∧ Only (W.heap.size ≤ ·) W w' := by
  obtain ⟨K, kc, rfl, _⟩ := id hs
  have hc := Get_c W bl A n c 4 L3 K _ kc [98] hb hn L3_few hs L3_ok
  rw [L3_b] at hc
  refine hc.mono ?_
  rintro e w' ⟨⟨P, t, p, Q, m, q, s, r, b, er, rfl, rfl, rfl, hi⟩, ho⟩
  have h1 : t = 1 := by
    obtain ⟨_, _, e, _⟩ := hi.1
    cases e
    rfl
  subst h1
  exact ⟨⟨P, p, Q, m, q, s, r, rfl, hi.1⟩, ho⟩
theorem getc_lit (v : Value) (hs : Src W v [99]) : Calls Try.prog 19 #[srcV bl, .int .i64 4, v] W fun e w' => (∃ P t p Q m q s r, e = .returned (.tuple #[.agg #[.slice P t p, .slice Q m q, .int .i64 s, .int .i64 r], .bool false, .int .i64 0])) ∧ Only (W.heap.size ≤ ·) W w' := by
  obtain ⟨K, kc, rfl, _⟩ := id hs
  have hc := Get_c W bl A n c 4 L3 K _ kc [99] hb hn L3_few hs L3_ok
  rw [L3_c] at hc
  refine hc.mono ?_
  rintro e w' ⟨⟨P, t, p, Q, m, q, s, r, b, er, rfl, rfl, rfl, hi⟩, ho⟩
  exact ⟨⟨P, t, p, Q, m, q, s, r, rfl⟩, ho⟩
theorem path_lit (v : Value) (hs : Src W v [98]) : Calls Try.prog 11 #[srcV bl, .int .i64 4, v] W fun e w' => (∃ B d x y, e = .returned (.tuple #[.slice B 2 d, .int .i64 0]) ∧ Sps w' (.slice B 2 d) [(4, x, 1), (3, y, 0)]) ∧ Only (W.heap.size ≤ ·) W w' := by
  obtain ⟨K, kc, rfl, _⟩ := id hs
  have hc := Path_c W bl A n c 4 L3 K _ kc [98] hb hn L3_few hs L3_ok
  obtain ⟨x, y, h⟩ := L3_path
  rw [h] at hc
  refine hc.mono ?_
  rintro e w' ⟨⟨B, m, d, er, path, rfl, hp, hi⟩, ho⟩
  cases hp
  have h1 : m = 2 := hi.len
  subst h1
  exact ⟨⟨B, d, x, y, rfl, hi⟩, ho⟩
theorem edge_lit : Calls Try.prog 14 #[srcV bl, .int .i64 4, .bool false] W fun e w' => (∃ B d x y, e = .returned (.tuple #[.slice B 2 d, .int .i64 0]) ∧ Sps w' (.slice B 2 d) [(4, x, 0), (2, y, 0)]) ∧ Only (W.heap.size ≤ ·) W w' := by
  have hc := Edge_c W bl A n c 4 L3 false hb hn L3_few
  obtain ⟨x, y, h⟩ := L3_edge
  rw [h] at hc
  refine hc.mono ?_
  rintro e w' ⟨⟨B, m, d, er, path, rfl, hp, hi⟩, ho⟩
  cases hp
  have h1 : m = 2 := hi.len
  subst h1
  exact ⟨⟨B, d, x, y, rfl, hi⟩, ho⟩
end
set_option maxRecDepth 100000 in
set_option maxHeartbeats 25600000 in
theorem talive_c (HM : MeetC) (w : World) : Calls Try.prog 9 #[] w (Told w (.bool true)) := by
  have kc := fun (w : World) (C : Array Value) (n c : Nat) => Lib.run_convert_bytes_const (P := Try.prog) w 23 5 C n c Try.underlying23 Try.underlying5
  have kc2 := kc (w.alloc (.cells #[.int .u8 97] 5 (1, 2))) #[.int .u8 98] 1 1
  rw [show (w.alloc (.cells #[.int .u8 97] 5 (1, 2))).heap.size = w.heap.size + 1 by simp] at kc2
  have HI := Lib.hid (two_its w)
  have HW3 : Hid (Only (w.heap.size ≤ ·) w (((w.alloc (.cells #[.int .u8 97] 5 (1, 2))).alloc (.cells #[.int .u8 98] 5 (1, 2))).alloc (.cells #[.slice (some ⟨w.heap.size, 0, none⟩) 1 1, .slice none 0 0, .int .i64 0, .int .i64 0, .slice (some ⟨w.heap.size + 1, 0, none⟩) 1 1, .slice none 0 0, .int .i64 0, .int .i64 0] 59))) := Lib.hid ((((Only.refl _ w).alloc (fun _ h => h) _).alloc (fun _ h => h) _).alloc (fun _ h => h) _)
  go_enter Try.func9, Try.ntmps9
  go_upto_region 2 with (go_at_call 21; go_loud ((have hc := rMade_c _ _ 2 2 1 2 _ HI.out (by decide) (by decide) (by decide)); rw [show ((1 : Nat) : Int) = 1 from rfl, show ((2 : Nat) : Int) = 2 from rfl] at hc; (with_reducible refine hc.mono ?_); rintro e w4 ⟨⟨A, n, c, root, ls, rfl, hm, _, hn⟩, ho⟩; (obtain ⟨rfl, rfl⟩ := made_two hm); have HN4 := Lib.hid hn; have HO4 := Lib.hid (on_new HW3.out ho); clear hc hm hn ho))
  clear kc2 HI HW3
  have HN := HN4
  have HO := HO4
  clear HN4 HO4
  go_upto_region 3 with (first
      | (go_at_call 12; (with_reducible refine (Source_c w4 A n c).mono ?_); rintro e w5 ⟨⟨bl, rfl, _, hbl⟩, ho⟩; replace HN := Lib.hid (Rw.later HN.out ho); replace HO := Lib.hid (on_new HO.out ho); have HBL := Lib.hid hbl; clear hbl ho)
      | (go_at_call 16; (with_reducible refine (all_lit w5 bl A n c HBL.out HN.out HM).mono ?_); rintro e w6 ⟨⟨IA, ic, RA, rc, rfl, hr⟩, ho⟩; replace HN := Lib.hid (Rw.later HN.out ho); replace HO := Lib.hid (on_new HO.out ho); have HRA := Lib.hid hr; clear hr; clear ho))
  clear HBL
  obtain ⟨w7, hw7⟩ : ∃ x, x = w6.alloc (.cells #[.slice IA 2 ic, .slice RA 3 rc, .int .i64 2] 49) := ⟨_, rfl⟩
  obtain ⟨b7, hb7⟩ : ∃ x, x = w6.heap.size := ⟨_, rfl⟩
  have Hb7 : Hid (Blk w7 b7 49 [.slice IA 2 ic, .slice RA 3 rc, .int .i64 2]) := Lib.hid (by rw [hw7, hb7]; exact Blk.new w6 _ [.slice IA 2 ic, .slice RA 3 rc, .int .i64 2])
  have HXb7 : Hid (Only (w6.heap.size ≤ ·) w6 w7) := Lib.hid (by rw [hw7]; exact (Only.refl _ w6).alloc (fun _ h => h) _)
  have HEQb7 : Hid (w7 = w6.alloc (.cells #[.slice IA 2 ic, .slice RA 3 rc, .int .i64 2] 49) ∧ b7 = w6.heap.size) := Lib.hid ⟨hw7, hb7⟩
  clear hw7 hb7
  replace HN := Lib.hid (Rw.later HN.out HXb7.out)
  replace HO := Lib.hid (on_new HO.out HXb7.out)
  replace HRA := Lib.hid (Rw.later HRA.out HXb7.out)
  rw [← HEQb7.out.1, ← HEQb7.out.2]
  clear HEQb7 HXb7
  go_upto_region 4 with (first
      | (go_at_call 12; (with_reducible refine (Source_c w7 A n c).mono ?_); rintro e w8 ⟨⟨bl, rfl, _, hbl⟩, ho⟩; replace HN := Lib.hid (Rw.later HN.out ho); replace HO := Lib.hid (on_new HO.out ho); replace HRA := Lib.hid (Rw.later HRA.out ho); replace Hb7 := Lib.hid (Hb7.out.later ho); have HBL := Lib.hid hbl; clear hbl ho)
      | (go_at_call 19; have hs := lit_src w8 #[.int .u8 98] (1, 2) 1 [98] rfl rfl (by decide); have hx : Only (w8.heap.size ≤ ·) w8 (w8.alloc (.cells #[.int .u8 98] 5 (1, 2))) := (Only.refl _ _).alloc (fun _ h => h) _; replace HN := Lib.hid (Rw.later HN.out hx); replace HO := Lib.hid (on_new HO.out hx); replace HRA := Lib.hid (Rw.later HRA.out hx); replace Hb7 := Lib.hid (Hb7.out.later hx); replace HBL := Lib.hid (HBL.out.later hx); go_loud ((with_reducible refine (getb_lit _ bl A n c HBL.out HN.out _ hs).mono ?_); rintro e w10 ⟨⟨P1, p1, Q1, m1, q1, s1, r1, rfl, hk⟩, ho⟩; replace HN := Lib.hid (Rw.later HN.out ho); replace HO := Lib.hid (on_new HO.out ho); replace HRA := Lib.hid (Rw.later HRA.out ho); replace Hb7 := Lib.hid (Hb7.out.later ho); have HK := Lib.hid hk; clear hk; clear ho hs hx)))
  clear HBL
  obtain ⟨w11, hw11⟩ : ∃ x, x = w10.alloc (.cells #[.slice P1 1 p1, .slice Q1 m1 q1, .int .i64 s1, .int .i64 r1] 60) := ⟨_, rfl⟩
  obtain ⟨b11, hb11⟩ : ∃ x, x = w10.heap.size := ⟨_, rfl⟩
  have Hb11 : Hid (Blk w11 b11 60 [.slice P1 1 p1, .slice Q1 m1 q1, .int .i64 s1, .int .i64 r1]) := Lib.hid (by rw [hw11, hb11]; exact Blk.new w10 _ [.slice P1 1 p1, .slice Q1 m1 q1, .int .i64 s1, .int .i64 r1])
  have HXb11 : Hid (Only (w10.heap.size ≤ ·) w10 w11) := Lib.hid (by rw [hw11]; exact (Only.refl _ w10).alloc (fun _ h => h) _)
  have HEQb11 : Hid (w11 = w10.alloc (.cells #[.slice P1 1 p1, .slice Q1 m1 q1, .int .i64 s1, .int .i64 r1] 60) ∧ b11 = w10.heap.size) := Lib.hid ⟨hw11, hb11⟩
  clear hw11 hb11
  replace HN := Lib.hid (Rw.later HN.out HXb11.out)
  replace HO := Lib.hid (on_new HO.out HXb11.out)
  replace HRA := Lib.hid (Rw.later HRA.out HXb11.out)
  replace Hb7 := Lib.hid (Hb7.out.later HXb11.out)
  replace HK := Lib.hid (Src.later HK.out HXb11.out)
  rw [← HEQb11.out.1, ← HEQb11.out.2]
  clear HEQb11 HXb11
  go_upto_region 5 with (first
      | (go_at_call 12; (with_reducible refine (Source_c w11 A n c).mono ?_); rintro e w12 ⟨⟨bl, rfl, _, hbl⟩, ho⟩; replace HN := Lib.hid (Rw.later HN.out ho); replace HO := Lib.hid (on_new HO.out ho); replace HRA := Lib.hid (Rw.later HRA.out ho); replace Hb7 := Lib.hid (Hb7.out.later ho); replace HK := Lib.hid (Src.later HK.out ho); replace Hb11 := Lib.hid (Hb11.out.later ho); have HBL := Lib.hid hbl; clear hbl ho)
      | (go_at_call 19; have hs := lit_src w12 #[.int .u8 99] (1, 2) 1 [99] rfl rfl (by decide); have hx : Only (w12.heap.size ≤ ·) w12 (w12.alloc (.cells #[.int .u8 99] 5 (1, 2))) := (Only.refl _ _).alloc (fun _ h => h) _; replace HN := Lib.hid (Rw.later HN.out hx); replace HO := Lib.hid (on_new HO.out hx); replace HRA := Lib.hid (Rw.later HRA.out hx); replace Hb7 := Lib.hid (Hb7.out.later hx); replace HK := Lib.hid (Src.later HK.out hx); replace Hb11 := Lib.hid (Hb11.out.later hx); replace HBL := Lib.hid (HBL.out.later hx); go_loud ((with_reducible refine (getc_lit _ bl A n c HBL.out HN.out _ hs).mono ?_); rintro e w14 ⟨⟨P2, t2, p2, Q2, m2, q2, s2, r2, rfl⟩, ho⟩; replace HN := Lib.hid (Rw.later HN.out ho); replace HO := Lib.hid (on_new HO.out ho); replace HRA := Lib.hid (Rw.later HRA.out ho); replace Hb7 := Lib.hid (Hb7.out.later ho); replace HK := Lib.hid (Src.later HK.out ho); replace Hb11 := Lib.hid (Hb11.out.later ho); clear ho hs hx)))
  clear HBL
  obtain ⟨w15, hw15⟩ : ∃ x, x = w14.alloc (.cells #[.slice P2 t2 p2, .slice Q2 m2 q2, .int .i64 s2, .int .i64 r2] 60) := ⟨_, rfl⟩
  obtain ⟨b15, hb15⟩ : ∃ x, x = w14.heap.size := ⟨_, rfl⟩
  have Hb15 : Hid (Blk w15 b15 60 [.slice P2 t2 p2, .slice Q2 m2 q2, .int .i64 s2, .int .i64 r2]) := Lib.hid (by rw [hw15, hb15]; exact Blk.new w14 _ [.slice P2 t2 p2, .slice Q2 m2 q2, .int .i64 s2, .int .i64 r2])
  have HXb15 : Hid (Only (w14.heap.size ≤ ·) w14 w15) := Lib.hid (by rw [hw15]; exact (Only.refl _ w14).alloc (fun _ h => h) _)
  have HEQb15 : Hid (w15 = w14.alloc (.cells #[.slice P2 t2 p2, .slice Q2 m2 q2, .int .i64 s2, .int .i64 r2] 60) ∧ b15 = w14.heap.size) := Lib.hid ⟨hw15, hb15⟩
  clear hw15 hb15
  replace HN := Lib.hid (Rw.later HN.out HXb15.out)
  replace HO := Lib.hid (on_new HO.out HXb15.out)
  replace HRA := Lib.hid (Rw.later HRA.out HXb15.out)
  replace Hb7 := Lib.hid (Hb7.out.later HXb15.out)
  replace HK := Lib.hid (Src.later HK.out HXb15.out)
  replace Hb11 := Lib.hid (Hb11.out.later HXb15.out)
  rw [← HEQb15.out.1, ← HEQb15.out.2]
  clear HEQb15 HXb15
  go_upto_region 6 with (first
      | (go_at_call 12; (with_reducible refine (Source_c w15 A n c).mono ?_); rintro e w16 ⟨⟨bl, rfl, _, hbl⟩, ho⟩; replace HN := Lib.hid (Rw.later HN.out ho); replace HO := Lib.hid (on_new HO.out ho); replace HRA := Lib.hid (Rw.later HRA.out ho); replace Hb7 := Lib.hid (Hb7.out.later ho); replace HK := Lib.hid (Src.later HK.out ho); replace Hb11 := Lib.hid (Hb11.out.later ho); replace Hb15 := Lib.hid (Hb15.out.later ho); have HBL := Lib.hid hbl; clear hbl ho)
      | (go_at_call 11; have hs := lit_src w16 #[.int .u8 98] (1, 2) 1 [98] rfl rfl (by decide); have hx : Only (w16.heap.size ≤ ·) w16 (w16.alloc (.cells #[.int .u8 98] 5 (1, 2))) := (Only.refl _ _).alloc (fun _ h => h) _; replace HN := Lib.hid (Rw.later HN.out hx); replace HO := Lib.hid (on_new HO.out hx); replace HRA := Lib.hid (Rw.later HRA.out hx); replace Hb7 := Lib.hid (Hb7.out.later hx); replace HK := Lib.hid (Src.later HK.out hx); replace Hb11 := Lib.hid (Hb11.out.later hx); replace Hb15 := Lib.hid (Hb15.out.later hx); replace HBL := Lib.hid (HBL.out.later hx); go_loud ((with_reducible refine (path_lit _ bl A n c HBL.out HN.out _ hs).mono ?_); rintro e w18 ⟨⟨A3, c3, x3, y3, rfl, hp⟩, ho⟩; replace HN := Lib.hid (Rw.later HN.out ho); replace HO := Lib.hid (on_new HO.out ho); replace HRA := Lib.hid (Rw.later HRA.out ho); replace Hb7 := Lib.hid (Hb7.out.later ho); replace HK := Lib.hid (Src.later HK.out ho); replace Hb11 := Lib.hid (Hb11.out.later ho); replace Hb15 := Lib.hid (Hb15.out.later ho); have HP := Lib.hid hp; clear hp; clear ho hs hx)))
  clear HBL
  go_upto_region 7 with (first
      | (go_at_call 12; (with_reducible refine (Source_c w18 A n c).mono ?_); rintro e w19 ⟨⟨bl, rfl, _, hbl⟩, ho⟩; replace HN := Lib.hid (Rw.later HN.out ho); replace HO := Lib.hid (on_new HO.out ho); replace HRA := Lib.hid (Rw.later HRA.out ho); replace Hb7 := Lib.hid (Hb7.out.later ho); replace HK := Lib.hid (Src.later HK.out ho); replace Hb11 := Lib.hid (Hb11.out.later ho); replace Hb15 := Lib.hid (Hb15.out.later ho); replace HP := Lib.hid (Rw.later HP.out ho); have HBL := Lib.hid hbl; clear hbl ho)
      | (go_at_call 14; (with_reducible refine (edge_lit w19 bl A n c HBL.out HN.out).mono ?_); rintro e w20 ⟨⟨A4, c4, x4, y4, rfl, hp⟩, ho⟩; replace HN := Lib.hid (Rw.later HN.out ho); replace HO := Lib.hid (on_new HO.out ho); replace HRA := Lib.hid (Rw.later HRA.out ho); replace Hb7 := Lib.hid (Hb7.out.later ho); replace HK := Lib.hid (Src.later HK.out ho); replace Hb11 := Lib.hid (Hb11.out.later ho); replace Hb15 := Lib.hid (Hb15.out.later ho); replace HP := Lib.hid (Rw.later HP.out ho); have HE := Lib.hid hp; clear hp; clear ho))
  clear HBL
  obtain ⟨rb, ro, rx, hRA, _, hrx, hrx0⟩ := ins_at HRA.out (show 0 < 3 by decide)
  subst hRA
  simp only [List.getElem?_cons_zero, Option.some.injEq] at hrx
  subst hrx
  obtain ⟨pb, po, px, _, _, _, _, _, _, hA3, _, hpx, _, _, _, _, hp4, _⟩ := sps_at HP.out (show 0 < 2 by decide)
  obtain ⟨qb, qo, qx, _, _, _, _, _, _, hA4, _, hqx, hq0, _⟩ := sps_at HE.out (show 1 < 2 by decide)
  cases hpx
  cases hqx
  have hrx1 : w20.cell? ⟨rb, ro, none⟩ = some (.int .i64 4) := hrx0
  have hp5 : w20.cell? ⟨pb, po + 4, none⟩ = some (.int .i64 1) := by simpa using hp4
  have hq1 : w20.cell? ⟨qb, qo + 5, none⟩ = some (.int .i64 2) := by simpa using hq0
  subst hA3 hA4
  go_wp2_with (go_at_call 16; (with_reducible refine (All_nil _ _).mono ?_); rintro e w21 ⟨rfl, ho⟩; have hx : Only (w20.heap.size ≤ ·) w20 (w21.alloc (.cells #[.slice none 0 0, .slice none 0 0, .int .i64 0] 49)) := ho.alloc (fun _ h => h) _; have HOF := Lib.hid (on_new HO.out hx); have a0 := cell_later (Hb7.out.cell 0) hx; have a1 := cell_later (Hb7.out.cell 1) hx; have a2 := cell_later (Hb7.out.cell 2) hx; have a3 := cell_later hrx1 hx; have a4 := cell_later (Hb11.out.cell 0) hx; have a5 := convert_src _ _ _ _ _ (HK.out.later hx); have a6 := cell_later hp5 hx; have a7 := cell_later hq1 hx; clear ho hx)
  go_ret
  exact ⟨rfl, HOF.out⟩
end Go.Proofs.Ytdpdlhfjemehcaa
