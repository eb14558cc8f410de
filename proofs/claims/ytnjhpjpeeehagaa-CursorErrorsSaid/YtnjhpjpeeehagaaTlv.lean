/-
  alive.
-/
import Derived.Test.YtnjhpjpeeehagaaTme
import Derived.Test.YtnjhpjpeeehagaaTgt
import Derived.Test.YtnjhpjpeeehagaaTal
import Derived.Lib.SlBytesConst
import Derived.Laws.BytesArg
import Derived.Laws.Cover3
set_option linter.unusedVariables false
namespace Go.Proofs.Ytnjhpjpeeehagaa
open Go.RowKit

theorem lit_src (w : World) (cs : Array Value) (fz : Nat × Nat) (n : Nat) (xs : Bytes) (h : cs.toList = cb xs) (hn : xs.length = n) (hl : n ≤ 1000) : Src (w.alloc (.cells cs 5 fz)) (.slice (some ⟨w.heap.size, 0, none⟩) n n) xs := by
  subst hn
  refine ⟨_, _, rfl, ⟨rfl, fun _ => ⟨_, rfl, fun j u hu => ?_⟩⟩, (fun e => by cases e), Nat.le_refl _, by omega⟩
  rw [Addr.add_mid, Nat.zero_add, cell_of_row _ w.heap.size j cs 5 fz (heap_alloc_new w _), ← hu, ← h]
  simp
theorem convert_src (w : World) (A : Option Addr) (n c : Nat) (xs : Bytes) (h0 : Src w (.slice A n c) xs) :
    (convert 34 9 (.slice A n c)).run Try.prog w = .ok (.string ⟨xs.toArray⟩) w := by
  obtain ⟨A', c', e, h, _⟩ := h0
  cases e
  exact convert_txt w _ _ _ xs h
theorem Lvl.inv {fan : Nat} {ks : List Kd} {nx : Int} {a : Nat} {ns : List Nm} {ab : List Kd} (h : Lvl fan ks nx a ns ab) : (a = 0 ∧ ns = [] ∧ ab = []) ∨ ∃ a' ns' ab', Lvl fan ks nx a' ns' ab' ∧ a' < ks.length ∧ a = cutTo fan ks.length a' ∧ ns = ns' ++ [(nx + (ns'.length : Int), ⟨false, [], bareK (groupP fan ks a')⟩)] ∧ ab = ab' ++ [(headKd (groupP fan ks a'), nx + (ns'.length : Int))] := by
  cases h with
  | start => exact .inl ⟨rfl, rfl, rfl⟩
  | step h1 h2 => exact .inr ⟨_, _, _, h1, h2, rfl, rfl, rfl⟩

/-- A level has at most half as many nodes as it has kids. -/
theorem Lvl.half {fan : Nat} {ks : List Kd} {nx : Int} {a : Nat} {ns : List Nm} {ab : List Kd} (hf : 2 ≤ fan) (h : Lvl fan ks nx a ns ab) (h1 : ks.length ≠ 1) : 2 * ab.length ≤ a ∧ a ≤ ks.length ∧ (a = ks.length ∨ a + 2 ≤ ks.length) ∧ ns.length = ab.length := by
  induction h with
  | start => simp; omega
  | @step a ns ab h0 h2 ih =>
    have h3 : cutTo fan ks.length a = ks.length ∨ cutTo fan ks.length a = a + fan ∧ a + fan + 2 ≤ ks.length := by
      unfold cutTo
      split <;> omega
    simp only [List.length_append, List.length_singleton]
    omega
theorem Lvs.half {fan : Nat} {l0 ls : List Nm} {k0 ks : List Kd} (hf : 2 ≤ fan) (h : Lvs fan l0 k0 ls ks) : (ls = l0 ∧ ks = k0) ∨ 2 * ks.length ≤ k0.length := by
  induction h with
  | start => exact .inl ⟨rfl, rfl⟩
  | step h1 h2 h3 ih =>
    have := (h3.half hf (by omega)).1
    rcases ih with ⟨_, e⟩ | e
    · rw [e] at this h3
      exact .inr (by omega)
    · exact .inr (by omega)
def ia : It := ([97], [], 0, 0)
def ib : It := ([98], [], 0, 0)
def L3 : List Nm := [(2, ⟨true, [ia], []⟩), (3, ⟨true, [ib], []⟩), (4, ⟨false, [], [([], 2), ([98], 3)]⟩)]
theorem made_two {ls : List Nm} {root : Int} (h : IsMade [ia, ib] 1 2 ls root) : ls = L3 ∧ root = 4 := by
  obtain ⟨j, k, h1, h2, h3, h4, rfl⟩ := h
  obtain rfl : j = 2 := by simp at h2 h3; omega
  cases h4 with
  | @step ls' ns ks' ab h5 h6 h7 =>
    rcases h5.half (Nat.le_refl _) with ⟨rfl, rfl⟩ | h8
    · have hL : (leafKidsP 1 [ia, ib] 2).length = 2 := rfl
      rcases h7.inv with ⟨h8, _⟩ | ⟨a, ns0, ab0, h8, h9, h10, h11, h12⟩
      · omega
      · have ha := h8.half (Nat.le_refl _) (by omega)
        obtain rfl : a = 0 := by omega
        obtain rfl : ns0 = [] := List.eq_nil_of_length_eq_zero (by omega)
        obtain rfl : ab0 = [] := List.eq_nil_of_length_eq_zero (by omega)
        simp only [List.nil_append, List.cons.injEq, and_true] at h12
        subst h12
        subst h11
        exact ⟨rfl, rfl⟩
    · have : (leafKidsP 1 [ia, ib] 2).length = 2 := rfl
      omega
theorem L3_few : FewN L3 := by
  refine ⟨by decide, fun x hx => ?_⟩
  simp [L3] at hx
  rcases hx with rfl | rfl | rfl
  · exact ⟨by simp, by simp, by simp [ia], by simp⟩
  · exact ⟨by simp, by simp, by simp [ib], by simp⟩
  · refine ⟨by decide, by decide, by simp, fun y hy => ?_⟩
    simp only [List.mem_cons, List.not_mem_nil, or_false] at hy
    rcases hy with rfl | rfl
    · exact ⟨Nat.zero_le _, by decide, by decide⟩
    · exact ⟨by show 1 ≤ 140737488355328; omega, by decide, by decide⟩
theorem L3_ok : ∀ ref x, Vis L3 4 ref → nodeP L3 ref = some x → okP x := by
  intro ref x _ hx
  obtain ⟨y, hy, rfl⟩ := nodeP_mem hx
  simp [L3] at hy
  rcases hy with rfl | rfl | rfl
  · intro _ k y z h1 h2
    cases k <;> simp at h2
  · intro _ k y z h1 h2
    cases k <;> simp at h2
  · intro h
    cases h
theorem L3_all : allP L3 4 = (0, ⟨[ia, ib], [4, 2, 3], 2⟩) := by kernel_rfl
theorem L3_b : getP L3 [98] 4 = (0, some ib) := by kernel_rfl
theorem L3_c : getP L3 [99] 4 = (0, none) := by kernel_rfl
theorem L3_path : ∃ x y : Nd, downP L3 (chP [98]) 12 4 = (0, [(4, x, 1), (3, y, 0)]) := ⟨⟨false, [], [([], 2), ([98], 3)]⟩, ⟨true, [ib], []⟩, by kernel_rfl⟩
theorem L3_edge : ∃ x y : Nd, downP L3 (chE false) 12 4 = (0, [(4, x, 0), (2, y, 0)]) := ⟨⟨false, [], [([], 2), ([98], 3)]⟩, ⟨true, [ia], []⟩, by kernel_rfl⟩
theorem nil_nil_d (d : Nat) (w : World) : (Op.equalIn (d + 1) 32 Value.nilFunc Value.nilFunc).run Try.prog w = .ok true w := by
  simp [Op.equalIn, run_underlying Try.underlying32]
theorem nil_nil (w : World) : (binOp .eql 32 Value.nilFunc Value.nilFunc).run Try.prog w = .ok (.bool true) w := by
  simp only [binOp]
  simp [Op.equal, Op.maxDepth, nil_nil_d 9999 w]
set_option maxRecDepth 100000 in
set_option maxHeartbeats 6400000 in
theorem All_nil (w : World) (r : Int) : Calls Try.prog 25 #[.nilFunc, .int .i64 r] w fun e w' => e = .returned (.tuple #[.agg #[.slice none 0 0, .slice none 0 0, .int .i64 0], .int .i64 1]) ∧ Only (w.heap.size ≤ ·) w w' := by
  have hfe := nil_nil
  go_enter Try.func25, Try.ntmps25
  go_wp2_with (fail)
  exact bodyPost_ret (v := .tuple #[.agg #[.slice none 0 0, .slice none 0 0, .int .i64 0], .int .i64 1]) (results_cell2 rfl rfl rfl (load_whole (Blk.new w _ _))) rfl ⟨rfl, (Only.refl _ w).alloc (fun _ h => h) _⟩
theorem two_its (w : World) : Its (((w.alloc (.cells #[.int .u8 97] 5 (1, 2))).alloc (.cells #[.int .u8 98] 5 (1, 2))).alloc (.cells #[.slice (some ⟨w.heap.size, 0, none⟩) 1 1, .slice none 0 0, .int .i64 0, .int .i64 0, .slice (some ⟨w.heap.size + 1, 0, none⟩) 1 1, .slice none 0 0, .int .i64 0, .int .i64 0] 44)) (.slice (some ⟨w.heap.size + 1 + 1, 0, none⟩) 2 2) [ia, ib] := by
  obtain ⟨w1, hw1⟩ : ∃ x, x = w.alloc (.cells #[.int .u8 97] 5 (1, 2)) := ⟨_, rfl⟩
  have s1 : w1.heap.size = w.heap.size + 1 := by rw [hw1]; simp
  obtain ⟨w2, hw2⟩ : ∃ x, x = w1.alloc (.cells #[.int .u8 98] 5 (1, 2)) := ⟨_, rfl⟩
  have s2 : w2.heap.size = w.heap.size + 1 + 1 := by rw [hw2]; simp [s1]
  have o2 : Only (w1.heap.size ≤ ·) w1 w2 := by rw [hw2]; exact (Only.refl _ _).alloc (fun _ h => h) _
  have k1 : Src w2 (.slice (some ⟨w.heap.size, 0, none⟩) 1 1) [97] := by
    have := lit_src w #[.int .u8 97] (1, 2) 1 [97] rfl rfl (by decide)
    rw [← hw1] at this
    exact this.later o2
  have k2 : Src w2 (.slice (some ⟨w.heap.size + 1, 0, none⟩) 1 1) [98] := by
    have := lit_src w1 #[.int .u8 98] (1, 2) 1 [98] rfl rfl (by decide)
    rw [← hw2, s1] at this
    exact this
  rw [← hw1, ← hw2]
  have hb := Blk.new w2 44 [.slice (some ⟨w.heap.size, 0, none⟩) 1 1, .slice none 0 0, .int .i64 0, .int .i64 0, .slice (some ⟨w.heap.size + 1, 0, none⟩) 1 1, .slice none 0 0, .int .i64 0, .int .i64 0]
  have o3 : Only (w2.heap.size ≤ ·) w2 (w2.alloc (.cells #[.slice (some ⟨w.heap.size, 0, none⟩) 1 1, .slice none 0 0, .int .i64 0, .int .i64 0, .slice (some ⟨w.heap.size + 1, 0, none⟩) 1 1, .slice none 0 0, .int .i64 0, .int .i64 0] 44)) := (Only.refl _ _).alloc (fun _ h => h) _
  rw [s2] at hb
  exact ⟨_, 2, _, rfl, ⟨[.slice (some ⟨w.heap.size, 0, none⟩) 1 1, .slice none 0 0, .int .i64 0, .int .i64 0], _, rfl, ⟨_, 1, none, 0, rfl, k1.later o3, Src.nil_ _⟩, [.slice (some ⟨w.heap.size + 1, 0, none⟩) 1 1, .slice none 0 0, .int .i64 0, .int .i64 0], [], rfl, ⟨_, 1, none, 0, rfl, k2.later o3, Src.nil_ _⟩, rfl⟩, Raw.blk (rest := []) (by rw [List.append_nil]; exact hb), (fun e => nomatch e), Nat.le_refl _, by omega⟩
section
variable (W : World) (bl : Nat) (A : Option Addr) (n c : Nat) (hb : Blk W bl 22 [.slice A n c]) (hn : Nms W (.slice A n c) L3)
include hb hn
theorem all_lit (HM : MeetC) : Calls Try.prog 25 #[srcV bl, .int .i64 4] W fun e w' => (∃ IA ic RA rc, e = .returned (.tuple #[.agg #[.slice IA 2 ic, .slice RA 3 rc, .int .i64 2], .int .i64 0]) ∧ Ins w' (.slice RA 3 rc) [4, 2, 3]) ∧ Only (W.heap.size ≤ ·) W w' := by
  have hc := All_c HM W bl A n c 4 L3 hb hn L3_few (by decide)
  rw [L3_all] at hc
  refine hc.mono ?_
  rintro e w' ⟨⟨IA, ni, ic, RA, nr, rc, rfl, hi, hr⟩, ho⟩
  have h1 : ni = 2 := hi.len
  have h2 : nr = 3 := hr.len
  subst h1 h2
  exact ⟨⟨IA, ic, RA, rc, rfl, hr⟩, ho⟩
theorem path_lit (v : Value) (hs : Src W v [98]) : Calls Try.prog 33 #[srcV bl, .int .i64 4, v] W fun e w' => (∃ B d x y, e = .returned (.tuple #[.slice B 2 d, .int .i64 0]) ∧ Sps w' (.slice B 2 d) [(4, x, 1), (3, y, 0)]) ∧ Only (W.heap.size ≤ ·) W w' := by
  obtain ⟨K, kc, rfl, _⟩ := id hs
  have hc := Path_c W bl A n c 4 L3 K _ kc [98] hb hn L3_few hs L3_ok
  obtain ⟨x, y, h⟩ := L3_path
  rw [h] at hc
  refine hc.mono ?_
  rintro e w' ⟨⟨B, m, d, er, path, rfl, hp, hi⟩, ho⟩
  cases hp
  have h1 : m = 2 := hi.len
  subst h1
  exact ⟨⟨B, d, x, y, rfl, hi⟩, ho⟩
theorem edge_lit : Calls Try.prog 30 #[srcV bl, .int .i64 4, .bool false] W fun e w' => (∃ B d x y, e = .returned (.tuple #[.slice B 2 d, .int .i64 0]) ∧ Sps w' (.slice B 2 d) [(4, x, 0), (2, y, 0)]) ∧ Only (W.heap.size ≤ ·) W w' := by
  have hc := Edge_c W bl A n c 4 L3 false hb hn L3_few
  obtain ⟨x, y, h⟩ := L3_edge
  rw [h] at hc
  refine hc.mono ?_
  rintro e w' ⟨⟨B, m, d, er, path, rfl, hp, hi⟩, ho⟩
  cases hp
  have h1 : m = 2 := hi.len
  subst h1
  exact ⟨⟨B, d, x, y, rfl, hi⟩, ho⟩
end
end Go.Proofs.Ytnjhpjpeeehagaa
