/-
  What is asked of a function that reads pages; ask.
-/
import Derived.Test.YtbgnfocfnjlabaaDoorPbd
import Derived.Test.YtbgnfocfnjlabaaDoorGa
import Derived.Defers
import Derived.Recover
set_option linter.unusedVariables false
namespace Go.Proofs.YtbgnfocfnjlabaaDoor
open Go.RowKit

theorem ask1_idle (p q : Option Addr) (w : World) :
    CallsD Tryd.prog 44 #[.pointer p, .pointer q] .returning w fun e u' w' => e = .returned (.tuple #[]) ∧ u' = .returning ∧ w' = w := by
  refine callsD_of_wpS Tryd.func44 rfl fun c₀ cs hu => ?_
  apply wpS_seq
  apply wpS_region
  simp [wpOpsS, go_sem, recoverD, hu, Tryd.ntmps44, Exit.thenS]
  refine wpS_cond (t := false) (by simp [Act.eval, Array.replicate]) ?_
  simp only [Bool.false_eq_true, if_false]
  refine wpS_of_wp (wp_skip ?_)
  cases c₀
  simp_all [bodyPostS, results, Tryd.results44]

/-- Bytes stay where another variable is written whose cells are no bytes. -/
theorem src_apart {w W : World} {q : Nat} {t : TypeId} {cs : List Value} {A : Option Addr} {n c : Nat} {xs : Bytes} (h : Src w (.slice A n c) xs) (hb : Blk w q t cs) (hcs : ∀ v ∈ cs, ∀ x, v ≠ .int .u8 x) (ho : Only (· = q) w W) : Src W (.slice A n c) xs := by
  obtain ⟨A', c', e, ht, h1, h2, h3⟩ := h
  refine ⟨A', c', e, ht.only ho (fun ad hn hA hF => ?_), h1, h2, h3⟩
  obtain ⟨ad', x, e1, _, e3⟩ := ht.at_ hn
  obtain rfl : ad = ad' := Option.some.inj (hA.symm.trans e1)
  have ee : ad.add 0 = ad := by cases ad; simp [Addr.add]
  rw [ee] at e3
  have e4 := spotF e3
  rw [e4, show ad.block = q from hF, hb.cell] at e3
  exact hcs _ (List.mem_of_getElem? e3) _ rfl

/-- A function that reads: J says what holds behind these questions; it writes nothing but the blocks F, and new ones; ans: an error's number, the bytes. -/
structure Rdg (n₀ : Nat) (F : Nat → Prop) (J : List (Int × Int) → World → Prop) (f : Nat) (lb : Array Value) (ans : Int → Int → Int × Bytes) : Prop where
  enters : ∀ args w, (callFunc f args).run Tryd.prog w = .ok (.enter f args) w
  low : ∀ k, F k → k < n₀
  zero : ¬ F 1
  gb : 1 < n₀
  keep : ∀ s W W', J s W → n₀ ≤ W.heap.size → Only (n₀ ≤ ·) W W' → J s W'
  len : ∀ id many, (ans id many).2.length ≤ 1000000
  call : ∀ s W (id many : Int), 1 ≤ many → J s W → n₀ ≤ W.heap.size → Calls Tryd.prog f (#[.int .i64 id, .int .i64 many] ++ lb) W fun e W' => ∃ v, e = .returned (.tuple #[v, .int .i64 (ans id many).1]) ∧ Src W' v (ans id many).2 ∧ J (s ++ [(id, many)]) W' ∧ Only (fun k => F k ∨ W.heap.size ≤ k) W W'
/-- What ask makes of it. -/
def askP (ans : Int → Int → Int × Bytes) (id many : Int) : Int × Bytes := if (ans id many).1 ≠ 0 then ((ans id many).1, []) else if ((ans id many).2.length : Int) ≠ many * 256 then (80, []) else (0, (ans id many).2)
section
variable {n₀ : Nat} {F : Nat → Prop} {J : List (Int × Int) → World → Prop} {f : Nat} {lb : Array Value} {ans : Int → Int → Int × Bytes}
theorem ask_boxes (R : Rdg n₀ F J f lb ans) (s : List (Int × Int)) (w W0 : World) (x y z : Value) (id many : Int) (hm : 1 ≤ many) (hJ : J s w) (hn : n₀ ≤ w.heap.size) (hW : W0 = ((w.alloc (.cells #[x, y, z] 54)).alloc (.cells #[.slice none 0 0] 27)).alloc (.cells #[.int .i64 0] 29)) :
    Only (w.heap.size ≤ ·) w W0 ∧ Calls Tryd.prog f (#[.int .i64 id, .int .i64 many] ++ lb) W0 fun e W' => ∃ v, e = .returned (.tuple #[v, .int .i64 (ans id many).1]) ∧ Src W' v (ans id many).2 ∧ J (s ++ [(id, many)]) W' ∧ Only (fun k => F k ∨ w.heap.size ≤ k) w W' ∧ Blk W' (w.heap.size + 1) 27 [.slice none 0 0] ∧ Blk W' (w.heap.size + 1 + 1) 29 [.int .i64 0] := by
  have ho : Only (w.heap.size ≤ ·) w W0 := by rw [hW]; exact (((Only.refl _ w).alloc (fun _ h => h) _).alloc (fun _ h => h) _).alloc (fun _ h => h) _
  have hsz : W0.heap.size = w.heap.size + 3 := by rw [hW]; simp
  have h6 : Blk W0 (w.heap.size + 1) 27 [.slice none 0 0] := by
    rw [hW]
    have := (Blk.new (w.alloc (.cells #[x, y, z] 54)) 27 [.slice none 0 0]).alloc (.cells #[.int .i64 0] 29)
    simpa using this
  have h7 : Blk W0 (w.heap.size + 1 + 1) 29 [.int .i64 0] := by
    rw [hW]
    have := Blk.new ((w.alloc (.cells #[x, y, z] 54)).alloc (.cells #[.slice none 0 0] 27)) 29 [.int .i64 0]
    simpa using this
  refine ⟨ho, (R.call s W0 id many hm (R.keep s w W0 hJ hn (ho.mono fun k h => Nat.le_trans hn h)) (by omega)).mono ?_⟩
  rintro e W' ⟨v, rfl, h1, h2, h3⟩
  have hF : ∀ k, w.heap.size ≤ k → k < W0.heap.size → ¬ (F k ∨ W0.heap.size ≤ k) := fun k h4 h5 h => by
    rcases h with h | h
    · have := R.low k h; omega
    · omega
  exact ⟨v, rfl, h1, h2, (ho.mono fun _ h => .inr h).trans (h3.mono fun k h => h.imp (fun h => h) fun h => by omega), h6.only h3 (hF _ (by omega) (by omega)), h7.only h3 (hF _ (by omega) (by omega))⟩

theorem New.keepAt {w w' : World} {F : Nat → Prop} {b : Nat} {A : Option Addr} {n c : Nat} {x : Bytes} (h : New w b (.slice A n c) x) (ho : Only F w w') (hF : ∀ ad, A = some ad → ¬ F ad.block) : New w' b (.slice A n c) x := by
  obtain ⟨A', c', e, h1, h3, h4, h5, h6⟩ := h
  simp only [Value.slice.injEq] at e
  obtain ⟨rfl, rfl, rfl⟩ := e
  exact ⟨A, c, rfl, h1.only ho (fun ad _ e => hF ad e), h3, h4, h5, fun ad e => ⟨(h6 ad e).1, Nat.lt_of_lt_of_le (h6 ad e).2 ho.size⟩⟩
theorem ask_src {W : World} {p : Nat} {A : Option Addr} {n c : Nat} {b : Bytes} (h : Src W (.slice A n c) b) (h6 : Blk W p 27 [.slice none 0 0]) (h7 : Blk W (p + 1) 29 [.int .i64 0]) (u v : Value) : Src ((W.setCell ⟨p, 0, none⟩ u).setCell ⟨p + 1, 0, none⟩ v) (.slice A n c) b := by
  have h1 := src_apart h h6 (fun v hv x e => by simp at hv; rw [hv] at e; cases e) ((Only.refl (· = p) W).setCell (p := ⟨p, 0, none⟩) rfl u)
  exact src_apart h1 (h7.far (p := ⟨p, 0, none⟩) (by simp) u) (fun v hv x e => by simp at hv; rw [hv] at e; cases e) ((Only.refl (· = p + 1) _).setCell (p := ⟨p + 1, 0, none⟩) rfl v)
theorem New.from_ {w : World} {b n c : Nat} {A : Option Addr} {x : Bytes} (h : New w b (.slice A n c) x) (ad : Addr) (e : A = some ad) : b ≤ ad.block := by
  obtain ⟨A', c', e', _, _, _, _, h6⟩ := h
  simp only [Value.slice.injEq] at e'
  obtain ⟨rfl, _, rfl⟩ := e'
  exact (h6 ad e).1
theorem ask_fin {s : List (Int × Int)} {w W1 : World} (R : Rdg n₀ F J f lb ans) (hn : n₀ ≤ w.heap.size) (hj : J s W1) (ho : Only (fun k => F k ∨ w.heap.size ≤ k) w W1) (W' : World) (h : Only (w.heap.size ≤ ·) W1 W') : J s W' ∧ Only (fun k => F k ∨ w.heap.size ≤ k) w W' :=
  ⟨R.keep s W1 W' hj (Nat.le_trans hn ho.size) (h.mono fun k hk => Nat.le_trans hn hk), ho.trans (h.mono fun k hk => .inr hk)⟩

set_option maxRecDepth 100000 in
set_option maxHeartbeats 3200000 in
theorem ask_c (R : Rdg n₀ F J f lb ans) (s : List (Int × Int)) (w : World) (g sz id many : Int) (hJ : J s w) (hn : n₀ ≤ w.heap.size) (hm : 1 ≤ many) (hm2 : many ≤ 1000) :
    Calls Tryd.prog 27 #[.agg #[.func (.func f) #[] lb, .int .i64 g, .int .i64 sz], .int .i64 id, .int .i64 many] w fun e w' => ∃ v, e = .returned (.tuple #[v, .int .i64 (askP ans id many).1]) ∧ New w' w.heap.size v (askP ans id many).2 ∧ J (s ++ [(id, many)]) w' ∧ Only (fun k => F k ∨ w.heap.size ≤ k) w w' := by
  have hmf : ∀ (fn : Fn) (first cap : Array Value) (w : World), (Instr.makeFunc fn first cap).run Tryd.prog w = .ok (.func fn first cap) w := fun _ _ _ _ => rfl
  have eg := R.enters
  have HR := Lib.hid R
  have HC := Lib.hid (ask_boxes R s w _ (.func (.func f) #[] lb) (.int .i64 g) (.int .i64 sz) id many hm hJ hn rfl).2
  have HLN := Lib.hid (R.len id many)
  obtain ⟨z, hz⟩ : ∃ z, z = (ans id many).1 := ⟨_, rfl⟩
  obtain ⟨b, hb⟩ : ∃ b, b = (ans id many).2 := ⟨_, rfl⟩
  unfold askP
  rw [← hz, ← hb] at HC ⊢
  rw [← hb] at HLN
  clear R hJ hz hb
  by_cases h1 : z = 0
  · subst h1
    rw [if_neg (by simp)]
    by_cases h2 : (b.length : Int) = many * 256
    · have h2' : ((b.length : Int) != many * 256) = false := by rw [bne_eq_false_iff_eq]; exact h2
      rw [if_neg (by simpa using h2)]
      clear h2
      go_enter_defers Tryd.func27, Tryd.ntmps27
      go_wp2_with (first | (go_at_fn f; refine HC.out.mono ?_; rintro e W1 ⟨v1, rfl, hs1, hj1, ho1, h6, h7⟩; have HS1 := Lib.hid hs1; (obtain ⟨A1, c1, rfl, _⟩ := hs1); have HFIN := Lib.hid (ask_fin HR.out hn hj1 ho1); have HZ1 := Lib.hid ho1.size; have k6 := h6.cell 0; have k7 := h7.cell 0; have f6 := h6.frozen 0; have f7 := h7.frozen 0; clear hj1 ho1) | (go_at_call 45; obtain ⟨W2, hW2⟩ : ∃ W, W = (W1.setCell ⟨w.heap.size + 1, 0, none⟩ (.slice A1 b.length c1)).setCell ⟨w.heap.size + 1 + 1, 0, none⟩ (.int .i64 0) := ⟨_, rfl⟩; rw [← hW2]; have HO2 : Hid (Only (w.heap.size ≤ ·) W1 W2) := Lib.hid (by rw [hW2]; exact ((Only.refl _ W1).setCell (p := ⟨w.heap.size + 1, 0, none⟩) (by simp only; omega) _).setCell (p := ⟨w.heap.size + 1 + 1, 0, none⟩) (by simp only; omega) _); have H6 : Blk W2 (w.heap.size + 1) 27 [.slice A1 b.length c1] := (by rw [hW2]; exact (h6.set_ 0 _).far (by simp) _); have H7 : Blk W2 (w.heap.size + 1 + 1) 29 [.int .i64 0] := (by rw [hW2]; exact (h7.far (p := ⟨w.heap.size + 1, 0, none⟩) (by simp) _).set_ 0 _); have HS2 : Hid (Src W2 (.slice A1 b.length c1) b) := Lib.hid (by rw [hW2]; exact ask_src HS1.out h6 h7 _ _); clear k6 k7 f6 f7 h6 h7 hW2; refine (Clone_c W2 _ b HS2.out (by have := HLN.out; omega)).mono ?_; rintro e W3 ⟨v3, rfl, hv3, ho3⟩; have HV3 := Lib.hid (New.own hv3); (obtain ⟨A3, c3, rfl, _⟩ := New.own hv3); have G6 := H6.later ho3; have G7 := H7.later ho3; have k6 := G6.cell 0; have k7 := G7.cell 0; have f6 := G6.frozen 0; have f7 := G7.frozen 0; have HO3 := Lib.hid ho3; clear ho3 hv3))
      refine leaves_cons (f := 44) (args := #[.pointer (some ⟨w.heap.size + 1, 0, none⟩), .pointer (some ⟨w.heap.size + 1 + 1, 0, none⟩)]) (by simp) (by simp [go_sem]) ?_
      refine (ask1_idle _ _ _).mono ?_
      rintro e u' w'' ⟨rfl, rfl, rfl⟩
      simp [Leaves, settle, results, Tryd.results27, go_sem, k6, k7]
      have hz3 : w.heap.size + 1 + 1 < W2.heap.size := H7.lt
      refine ⟨?_, HFIN.out _ ?_⟩
      · refine ((HV3.out.keepAt (((Only.refl (fun k => k = w.heap.size + 1 ∨ k = w.heap.size + 1 + 1) W3).setCell (p := ⟨w.heap.size + 1, 0, none⟩) (.inl rfl) (.slice A3 b.length c3)).setCell (p := ⟨w.heap.size + 1 + 1, 0, none⟩) (.inr rfl) (.int .i64 0)) fun ad e h => ?_).mono (Nat.le_trans HZ1.out HO2.out.size))
        have h3 := HV3.out.from_ ad e
        rcases h with h | h <;> omega
      · exact (((HO2.out.trans (HO3.out.mono fun k h => Nat.le_trans (Nat.le_trans HZ1.out HO2.out.size) h)).setCell (p := ⟨w.heap.size + 1, 0, none⟩) (by simp only; omega) _).setCell (p := ⟨w.heap.size + 1 + 1, 0, none⟩) (by simp only; omega) _)
    · have h2' : ((b.length : Int) != many * 256) = true := by rw [bne_iff_ne]; exact h2
      rw [if_pos (by simpa using h2)]
      clear h2
      go_enter_defers Tryd.func27, Tryd.ntmps27
      go_wp2_with (go_at_fn f; refine HC.out.mono ?_; rintro e W1 ⟨v1, rfl, hs1, hj1, ho1, h6, h7⟩; have HS1 := Lib.hid hs1; (obtain ⟨A1, c1, rfl, _⟩ := hs1); have HFIN := Lib.hid (ask_fin HR.out hn hj1 ho1); have HZ1 := Lib.hid ho1.size; have k6 := h6.cell 0; have k7 := h7.cell 0; have f6 := h6.frozen 0; have f7 := h7.frozen 0; clear hj1 ho1)
      obtain ⟨W4, hW4⟩ : ∃ W, W = (((W1.setCell ⟨w.heap.size + 1, 0, none⟩ (.slice A1 b.length c1)).setCell ⟨w.heap.size + 1 + 1, 0, none⟩ (.int .i64 0)).setCell ⟨w.heap.size + 1, 0, none⟩ (.slice none 0 0)).setCell ⟨w.heap.size + 1 + 1, 0, none⟩ (.int .i64 80) := ⟨_, rfl⟩
      rw [← hW4]
      have HO4 : Hid (Only (w.heap.size ≤ ·) W1 W4) := Lib.hid (by rw [hW4]; exact (((((Only.refl _ W1).setCell (p := ⟨w.heap.size + 1, 0, none⟩) (by simp only; omega) _).setCell (p := ⟨w.heap.size + 1 + 1, 0, none⟩) (by simp only; omega) _).setCell (p := ⟨w.heap.size + 1, 0, none⟩) (by simp only; omega) _).setCell (p := ⟨w.heap.size + 1 + 1, 0, none⟩) (by simp only; omega) _))
      have H6 : Blk W4 (w.heap.size + 1) 27 [.slice none 0 0] := by rw [hW4]; exact (((h6.set_ 0 _).far (by simp) _).set_ 0 _).far (by simp) _
      have H7 : Blk W4 (w.heap.size + 1 + 1) 29 [.int .i64 80] := by rw [hW4]; exact (((h7.far (p := ⟨w.heap.size + 1, 0, none⟩) (by simp) _).set_ 0 _).far (p := ⟨w.heap.size + 1, 0, none⟩) (by simp) _).set_ 0 _
      clear h6 h7 k6 k7 f6 f7 hW4
      have k6 := H6.cell 0
      have k7 := H7.cell 0
      refine leaves_cons (f := 44) (args := #[.pointer (some ⟨w.heap.size + 1, 0, none⟩), .pointer (some ⟨w.heap.size + 1 + 1, 0, none⟩)]) (by simp) (by simp [go_sem]) ?_
      refine (ask1_idle _ _ _).mono ?_
      rintro e u' w'' ⟨rfl, rfl, rfl⟩
      simp [Leaves, settle, results, Tryd.results27, go_sem, k6, k7]
      exact ⟨New.nil_ _ _, HFIN.out _ HO4.out⟩
  · have h1' : (z != 0) = true := by rw [bne_iff_ne]; exact h1
    rw [if_pos h1]
    clear h1
    go_enter_defers Tryd.func27, Tryd.ntmps27
    go_wp2_with (go_at_fn f; refine HC.out.mono ?_; rintro e W1 ⟨v1, rfl, hs1, hj1, ho1, h6, h7⟩; have HS1 := Lib.hid hs1; (obtain ⟨A1, c1, rfl, _⟩ := hs1); have HFIN := Lib.hid (ask_fin HR.out hn hj1 ho1); have HZ1 := Lib.hid ho1.size; have k6 := h6.cell 0; have k7 := h7.cell 0; have f6 := h6.frozen 0; have f7 := h7.frozen 0; clear hj1 ho1)
    obtain ⟨W2, hW2⟩ : ∃ W, W = (W1.setCell ⟨w.heap.size + 1, 0, none⟩ (.slice A1 b.length c1)).setCell ⟨w.heap.size + 1 + 1, 0, none⟩ (.int .i64 z) := ⟨_, rfl⟩
    rw [← hW2]
    have HO2 : Hid (Only (w.heap.size ≤ ·) W1 W2) := Lib.hid (by rw [hW2]; exact ((Only.refl _ W1).setCell (p := ⟨w.heap.size + 1, 0, none⟩) (by simp only; omega) _).setCell (p := ⟨w.heap.size + 1 + 1, 0, none⟩) (by simp only; omega) _)
    have H6 : Blk W2 (w.heap.size + 1) 27 [.slice A1 b.length c1] := by rw [hW2]; exact (h6.set_ 0 _).far (by simp) _
    have H7 : Blk W2 (w.heap.size + 1 + 1) 29 [.int .i64 z] := by rw [hW2]; exact (h7.far (p := ⟨w.heap.size + 1, 0, none⟩) (by simp) _).set_ 0 _
    clear h6 h7 k6 k7 f6 f7 hW2
    have k6 := H6.cell 0
    have k7 := H7.cell 0
    have f6 := H6.frozen 0
    have f7 := H7.frozen 0
    go_region
    all_goals go_wp2
    all_goals
      refine leaves_cons (f := 44) (args := #[.pointer (some ⟨w.heap.size + 1, 0, none⟩), .pointer (some ⟨w.heap.size + 1 + 1, 0, none⟩)]) (by simp) (by simp [go_sem]) ?_
      refine (ask1_idle _ _ _).mono ?_
      rintro e u' w'' ⟨rfl, rfl, rfl⟩
      simp [Leaves, settle, results, Tryd.results27, go_sem, k6, k7]
      refine ⟨New.nil_ _ _, HFIN.out _ ?_⟩
      exact ((HO2.out.setCell (p := ⟨w.heap.size + 1, 0, none⟩) (by simp only; omega) _).setCell (p := ⟨w.heap.size + 1 + 1, 0, none⟩) (by simp only; omega) _).drew
end
end Go.Proofs.YtbgnfocfnjlabaaDoor
