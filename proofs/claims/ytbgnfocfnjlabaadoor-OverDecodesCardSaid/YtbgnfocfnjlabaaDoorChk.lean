/-
  slices.Chunk of bytes, ranged over.
-/
import Derived.Test.YtbgnfocfnjlabaaDoorBrg
import Derived.Test.YtbgnfocfnjlabaaDoorGa
set_option linter.unusedVariables false
namespace Go.Proofs.YtbgnfocfnjlabaaDoor
open Go.RowKit Go.Shelf

attribute [local go_sem] Oper.semAt_some

/-- How long the k-th piece is. -/
def chk (n m k : Nat) : Nat := min m (n - k * m)
def cv (b off n m k : Nat) : Value := .slice (some ⟨b, off + k * m, none⟩) (chk n m k) (chk n m k)
/-- There is a k-th piece. -/
abbrev Ck (n m : Nat) := { k : Nat // k * m < n }
/-- Which they are. -/
def idxs {n m : Nat} (l : List (Ck n m)) : List Nat := l.map (·.1)
theorem idxs_len {n m : Nat} (l : List (Ck n m)) : (idxs l).length = l.length := by simp [idxs]
theorem idxs_snoc {n m : Nat} (l : List (Ck n m)) (x : Ck n m) : idxs (l ++ [x]) = idxs l ++ [x.1] := by simp [idxs]
theorem chunks_le {n m k : Nat} (hm : 1 ≤ m) (h : ¬ k * m < n) (h1 : k = 0 ∨ (k - 1) * m < n) : k = (n + m - 1) / m := by
  rcases Nat.eq_zero_or_pos k with rfl | hk
  · have : n = 0 := by omega
    subst this
    rw [Nat.div_eq_of_lt (by omega)]
  · have h2 := h1.resolve_left (by omega)
    obtain ⟨j, rfl⟩ : ∃ j, k = j + 1 := ⟨k - 1, by omega⟩
    rw [Nat.add_sub_cancel] at h2
    rw [Nat.succ_mul] at h
    symm
    apply Nat.div_eq_of_lt_le
    · rw [Nat.succ_mul]; omega
    · rw [Nat.succ_mul, Nat.succ_mul]; omega

theorem lt_chunks {n m k : Nat} (hm : 1 ≤ m) (h : k * m < n) : k < (n + m - 1) / m := by
  have : (k + 1) ≤ (n + m - 1) / m := (Nat.le_div_iff_mul_le (by omega)).2 (by rw [Nat.succ_mul]; omega)
  omega

set_option maxRecDepth 100000 in
set_option maxHeartbeats 3200000 in
theorem chunk1_in (d n m : Nat) (hd : 1 ≤ d) (hm : 1 ≤ m) (hm2 : m ≤ 100000) (hn : n ≤ 1000000) (l Bs Bm b off cap : Nat) (F : Nat → Prop) (hcap : n ≤ cap) (hcap2 : cap ≤ 9223372036854775807) (h1 : ¬ F Bs) (h2 : ¬ F Bm) (J Jx : List (Ck n m) → World → Prop) (hJd : ∀ s A, J s A → J s A.drew)
    (hY : ∀ pre x W, J pre W → pre.length < (n + m - 1) / m → YieldAt Fence.wide (d - 1) Tryd.prog l #[cv b off n m x.1] W fun e W' =>
      (e = .returned (.bool true) ∧ J (pre ++ [x]) W' ∧ Only F W W') ∨ (e = .returned (.bool false) ∧ Jx (pre ++ [x]) W'))
    (W : World) (hBs : W.cell? ⟨Bs, 0, none⟩ = some (.slice (some ⟨b, off, none⟩) n cap)) (hBm : W.cell? ⟨Bm, 0, none⟩ = some (.int .i64 m)) (h0 : J [] W) :
    CallsIn Fence.wide d Tryd.prog 69 #[.func (.yield l) #[] #[], .pointer (some ⟨Bs, 0, none⟩), .pointer (some ⟨Bm, 0, none⟩)] W fun e W' => (∃ v, e = .returned v) ∧
      ((∃ ys, idxs ys = List.range ((n + m - 1) / m) ∧ J ys W') ∨ (∃ pre, True ∧ Jx pre W')) := by
  refine callsIn_of_wp Tryd.func69 rfl trivial ?_ rfl
  simp only [Tryd.ntmps69, List.size_toArray, List.length_cons, List.length_nil, Nat.reduceAdd, Nat.reduceSub, Array.replicate_succ, Array.replicate_zero, List.push_toArray, List.append_toArray, List.nil_append, List.cons_append]
  gi_wp2
  gi_loopw [4] (fun i wr => ∃ (k q : Nat) (pre : List (Ck n m)), Hid (q = k * m) ∧ q < n + m ∧ (k = 0 ∨ Hid ((k - 1) * m < n)) ∧ Hid (idxs pre = List.range k) ∧ i = .int .i64 (q : Int) ∧ J pre wr ∧ Only F W wr)
    (fun i _ => n + m - (intOf i).toNat)
  case atStart => exact ⟨0, 0, [], Lib.hid (by simp), by omega, .inl rfl, rfl, rfl, h0, Only.refl _ _⟩
  case round =>
    obtain ⟨k, q, pre, HQ, hk1, hk2, HP, rfl, hJ, hB⟩ := hrel
    have cBs := (hB.cell (p := ⟨Bs, 0, none⟩) h1).trans hBs
    have cBm := (hB.cell (p := ⟨Bm, 0, none⟩) h2).trans hBm
    by_cases hlt : q < n
    · have HKM := Lib.hid (show k * m < n by rw [← HQ.out]; exact hlt)
      have hlen : pre.length = k := by have := congrArg List.length HP.out; rw [idxs_len] at this; simpa using this
      have hkn : k < n := by
        have h3 := HKM.out
        have := Nat.mul_le_mul_left k hm
        omega
      have hY1 := hY pre ⟨k, HKM.out⟩ wr.drew (hJd _ _ hJ) (by rw [hlen]; exact lt_chunks hm HKM.out)
      have HQ1 := Lib.hid (show (k + 1 - 1) * m < n from HKM.out)
      have hq0 : (0 : Int) ≤ (q : Int) := by omega
      have hqn : (q : Int) < (n : Int) := by omega
      have hqc : (q : Int) ≤ (n : Int) := by omega
      obtain ⟨r, hr⟩ : ∃ r, r = chk n m k := ⟨_, rfl⟩
      have hrr : r = min m (n - q) := by rw [hr, HQ.out]; rfl
      have hr1 : 1 ≤ r := by omega
      have hr2 : q + r ≤ n := by omega
      simp only [cv, ← hr, ← HQ.out] at hY1
      obtain ⟨fn, tmps, assign, body, hy, hR⟩ := hY1
      have hmin : min (m : Int) ((n - q : Nat) : Int) = r := by omega
      clear hk2 hr hrr
      gi_wp2
      gi_region
      gi_wp2
      refine hR.mono ?_
      rintro e W' (⟨rfl, hJ2, hk⟩ | ⟨rfl, hJx2⟩)
      · have cBm2 := (hk.cell (p := ⟨Bm, 0, none⟩) h2).trans cBm
        have hB2 : Only F W W' := hB.drew.trans hk
        gi_wp2
        go_roundw
        case rel => exact ⟨k + 1, q + m, _, Lib.hid (by rw [HQ.out, Nat.succ_mul]), by omega, .inr HQ1, Lib.hid (by rw [idxs_snoc, HP.out, List.range_succ]), by go_num, hJ2, hB2⟩
        case measure => simp [intOf]; omega
      · gi_wp2
        refine bodyPost_ret (results_none rfl _ _ _) rfl ?_
        exact ⟨⟨_, rfl⟩, .inr ⟨_, trivial, hJx2⟩⟩
    · have he := Lib.hid (chunks_le hm (by rw [← HQ.out]; exact hlt) (hk2.imp id fun h => h.out))
      have hlt' : ¬ (q : Int) < (n : Int) := by omega
      clear hlt hk2
      gi_wp2
      go_end0
      exact ⟨⟨_, rfl⟩, .inl ⟨pre, by rw [HP.out, he.out], hJ⟩⟩
section
variable {F : Nat → Prop} {a w W W' : World} {row : Option Nat} {b : Nat} {v : Value} {xs : Bytes}
theorem only_putObj {l : Nat} (h : Only F a W) (hl : F l) (o' : Obj) : Only F a (W.putObj l o') :=
  ⟨h.os, h.tape, h.output, Nat.le_trans h.size (grownBy_putObj' W l o').size, fun k hk => (World.putObj_heap_other (fun e => hk (by rw [e] at *; exact hl))).trans (h.block k hk)⟩
theorem ownFrom_only {β : Type} {B : Nat} (hN : ∀ k, w.heap.size ≤ k → F k) (hB : ∀ k, B ≤ k → F k) : OwnFrom B (fun (_ : β) W => Only F w W) := fun _ W W' row hs hg hr => hs.grown hg hN fun g e => hB g (hr g e).1
/-- Bytes abide the turn of what is no cells. -/
theorem New.turn (h : New W b v xs) (hg : W.grownBy W' row) (hr : ∀ r, row = some r → ∃ o : Obj, W.heap[r]? = some o ∧ o.isCells = false) : New W' b v xs := by
  obtain ⟨A, c, e, ⟨h1, h2⟩, h3, h4, h5, h6⟩ := h
  refine ⟨A, c, e, ⟨h1, fun hn => ?_⟩, h3, h4, h5, fun ad hA => ⟨(h6 ad hA).1, Nat.lt_of_lt_of_le (h6 ad hA).2 hg.size⟩⟩
  obtain ⟨ad, hA, hc⟩ := h2 hn
  exact ⟨ad, hA, fun j u hu => cell_kept (hc j u hu) hg hr⟩
end

/-- Bytes from block b on, not in block D. -/
def pgAt (b : Nat) (D : Option Nat) (w : World) (x : Bytes) (cs : List Value) : Prop := ∃ A c, cs = [.slice A x.length c] ∧ New w b (.slice A x.length c) x ∧ ∀ ad, A = some ad → some ad.block ≠ D
/-- A row of pages of the call's own: its cells, and the pages. -/
def Pgs (b : Nat) (w : World) (v : Value) (xs : List Bytes) : Prop := ∃ C, w.ownsRow b 27 1 v xs.length C ∧ Den (pgAt b v.ownBlock w) xs C
section
variable {F : Nat → Prop} {w w' : World} {row : Option Nat} {b : Nat} {v : Value} {xs : List Bytes}
theorem Pgs.nil_ (w : World) (b : Nat) : Pgs b w (.slice none 0 0) [] := ⟨[], World.ownsRow_nil _ _ _ _, rfl⟩
theorem Pgs.turn (h : Pgs b w v xs) (hg : w.grownBy w' row) (hr : ∀ r, row = some r → ∃ o : Obj, w.heap[r]? = some o ∧ o.isCells = false) : Pgs b w' v xs := by
  obtain ⟨C, h1, h2⟩ := h
  refine ⟨C, h1.kept hg ?_, h2.mono fun x cs ⟨A, c, e, hn, hD⟩ => ⟨A, c, e, hn.turn hg hr, hD⟩⟩
  rcases h1.2 with ⟨rfl, _⟩ | ⟨g, cap, cur, rfl, _, hgb, _⟩
  · exact .inl rfl
  · refine .inr fun e' => ?_
    obtain ⟨o, ho, hc⟩ := hr g (by simpa [Value.ownBlock] using e'.symm)
    rw [hgb] at ho
    cases ho
    cases hc
theorem Pgs.keep (h : Pgs b w v xs) (ho : Only F w w') (hF : ∀ k, b ≤ k → k < w.heap.size → ¬ F k) : Pgs b w' v xs := by
  obtain ⟨C, h1, h2⟩ := h
  refine ⟨C, ?_, h2.mono fun x cs ⟨A, c, e, hn, hD⟩ => ⟨A, c, e, hn.keep ho hF, hD⟩⟩
  rcases h1.2 with ⟨e1, e2⟩ | ⟨g, cap, cur, e1, hb, hgb, h3⟩
  · exact ⟨h1.1, .inl ⟨e1, e2⟩⟩
  · exact ⟨h1.1, .inr ⟨g, cap, cur, e1, hb, (ho.block g (hF g hb (Array.getElem?_eq_some_iff.1 hgb).1)).trans hgb, h3⟩⟩
theorem Pgs.later (h : Pgs b w v xs) (ho : Only (w.heap.size ≤ ·) w w') : Pgs b w' v xs := h.keep ho fun k _ h => Nat.not_le.2 h
end
theorem Pgs.mono {b b' : Nat} {w : World} {v : Value} {xs : List Bytes} (h : Pgs b w v xs) (hb : b' ≤ b) : Pgs b' w v xs := by
  obtain ⟨C, ⟨h1, h3⟩, h2⟩ := h
  refine ⟨C, ⟨h1, ?_⟩, h2.mono fun x cs ⟨A, c, e, hn, hD⟩ => ⟨A, c, e, hn.mono hb, hD⟩⟩
  rcases h3 with h3 | ⟨g, cap, cur, e1, h4, h5⟩
  · exact .inl h3
  · exact .inr ⟨g, cap, cur, e1, Nat.le_trans hb h4, h5⟩
theorem chunk_stops (d n m : Nat) (hd : 1 ≤ d) (hm : 1 ≤ m) (hm2 : m ≤ 100000) (hn : n ≤ 1000000) (Bs Bm b off cap : Nat) (F : Nat → Prop) (hcap : n ≤ cap) (hcap2 : cap ≤ 9223372036854775807) (h1 : ¬ F Bs) (h2 : ¬ F Bm) (w : World)
    (hBs : Blk w Bs 27 [.slice (some ⟨b, off, none⟩) n cap]) (hBm : Blk w Bm 3 [.int .i64 m]) :
    SeqStopsK Fence.wide d Tryd.prog 69 #[.pointer (some ⟨Bs, 0, none⟩), .pointer (some ⟨Bm, 0, none⟩)] (fun x : Ck n m => #[cv b off n m x.1]) (Only F) (fun ys => idxs ys = List.range ((n + m - 1) / m)) (fun _ => True) ((n + m - 1) / m) w := fun l J Jx W hW hJ _ hY h0 =>
  chunk1_in d n m hd hm hm2 hn l Bs Bm b off cap F hcap hcap2 h1 h2 J Jx (fun s A hs => hJ s A A.drew none hs ⟨rfl, rfl, rfl, Nat.le_refl _, fun _ _ _ => rfl⟩ (fun r e => by cases e)) hY W
    ((hW.cell (p := ⟨Bs, 0, none⟩) hBs.lt).trans (hBs.cell 0)) ((hW.cell (p := ⟨Bm, 0, none⟩) hBm.lt).trans (hBm.cell 0)) h0
theorem boxed_of {w : World} {b : Nat} {t : TypeId} {v : Value} (h : Blk w b t [v]) : Boxed w b t v := h
theorem boxed_blk {w : World} {b : Nat} {t : TypeId} {v : Value} (h : Boxed w b t v) : Blk w b t [v] := h
theorem boxed_turn {w w' : World} {row : Option Nat} {b : Nat} {t : TypeId} {v : Value} (h : Boxed w b t v) (hg : w.grownBy w' row) (hr : ∀ r, row = some r → ∃ o : Obj, w.heap[r]? = some o ∧ o.isCells = false) : Boxed w' b t v := h.kept hg fun e => by
  obtain ⟨o, ho, hc⟩ := hr b e.symm
  rw [show w.heap[b]? = _ from h] at ho
  cases ho
  cases hc
end Go.Proofs.YtbgnfocfnjlabaaDoor
