/-
  links: the pages of a chain.
-/
import Derived.Test.YtbgnfocfnjlabaaDoorOcn
import Derived.Test.YtbgnfocfnjlabaaDoorChk
import Derived.Test.YtbgnfocfnjlabaaDoorPfn
import Derived.Test.YtbgnfocfnjlabaaDoorGa
import Derived.Test.YtbgnfocfnjlabaaDoorOas
import Derived.Test.YtbgnfocfnjlabaaDoorAdd
set_option linter.unusedVariables false
namespace Go.Proofs.YtbgnfocfnjlabaaDoor
open Go.RowKit Go.Shelf

attribute [local go_sem] Oper.semAt_some

theorem SChunk_c (w : World) (A : Option Addr) (n c : Nat) (m : Int) (hm : 1 ≤ m) :
    Calls Tryd.prog 39 #[.slice A n c, .int .i64 m] w fun e w' => e = .returned (.func (.func 69) #[] #[.pointer (some ⟨w.heap.size, 0, none⟩), .pointer (some ⟨w.heap.size + 1, 0, none⟩)]) ∧
      w' = (w.alloc (.cells #[.slice A n c] 27)).alloc (.cells #[.int .i64 m] 3) := by
  have hmf : ∀ (fn : Fn) (first cap : Array Value) (w : World), (Instr.makeFunc fn first cap).run Tryd.prog w = .ok (.func fn first cap) w := fun _ _ _ _ => rfl
  have h1 : ¬ m < 1 := by omega
  go_enter Tryd.func39, Tryd.ntmps39
  go_wp2
  go_ret
  exact ⟨rfl, rfl⟩

/-- Behind the k-th page comes the next one, or none. -/
def nextOf (l : List Int) (k : Nat) : Int := (l.drop 1 ++ [0]).getD k 0
def chunkB (v : Bytes) (m k : Nat) : Bytes := (v.drop (k * m)).take m
/-- The k-th page of a chain. -/
def linkB (g : Int) (v : Bytes) (m : Nat) (l : List Int) (k j : Nat) : Bytes := wrapB 79 g (chk v.length m j) (nextOf l k) (chunkB v m j)
def linksB (g : Int) (v : Bytes) (m : Nat) (l : List Int) (js : List Nat) : List Bytes := js.mapIdx fun k j => linkB g v m l k j

theorem le_chunks {n m : Nat} (hn : 1 ≤ n) (hm : 1 ≤ m) : (n + m - 1) / m ≤ n := by
  apply Nat.div_le_of_le_mul
  obtain ⟨k, rfl⟩ : ∃ k, n = k + 1 := ⟨n - 1, by omega⟩
  have := Nat.mul_le_mul_right k hm
  rw [Nat.mul_succ]
  omega
/-- The numbers behind the first one, and 0 behind them. -/
theorem next_c (w : World) (a : Nat) (UA : Option Addr) (uc q : Nat) (l : List Int) (P : Option Addr) (hP : P = if uc = 1 then UA else UA.map (·.add 1)) (hu : Ints w (.slice UA q uc) l) (hq : 1 ≤ q) (hn : q ≤ 100000) (ha : Blk w a 3 [.int .i64 0]) (hB : Blk w (a + 1) 28 [.slice P (q - 1) (uc - 1), .slice (some ⟨a, 0, none⟩) 1 1]) :
    Calls Tryd.prog 63 #[.slice (some ⟨a + 1, 0, none⟩) 2 2] w fun e w' => ∃ RA rc, e = .returned (.slice RA q rc) ∧ Ints w' (.slice RA q rc) (l.drop 1 ++ [0]) ∧ Only (w.heap.size ≤ ·) w w' := by
  have hl := hu.len
  refine (SConcat_r w (a + 1) 2 [(.slice P (q - 1) (uc - 1), q - 1, ci (l.drop 1)), (.slice (some ⟨a, 0, none⟩) 1 1, 1, ci [0])] rfl (by omega) hB ?_).mono ?_
  · intro x hx
    simp only [List.mem_cons, List.not_mem_nil, or_false] at hx
    rcases hx with rfl | rfl
    · subst hP
      exact ⟨hu.drop hq, by simp only; omega⟩
    · refine ⟨⟨_, _, rfl, rfl, ?_, (fun e => by cases e), Nat.le_refl _, by omega, ?_⟩, by simp only; omega⟩
      · exact Raw.blk (rest := []) ha
      · intro u hu
        simp [ci] at hu
        subst hu
        rfl
  · rintro e w' ⟨r, rfl, ho, hO⟩
    have e1 : flat [(Value.slice P (q - 1) (uc - 1), q - 1, ci (l.drop 1)), (.slice (some ⟨a, 0, none⟩) 1 1, 1, ci [0])] = ci (l.drop 1 ++ [0]) := by simp [flat, ci]
    rw [e1] at ho
    have hi := Ints.own ho
    obtain ⟨RA, rc, rfl, _⟩ := id hi
    have hql : (l.drop 1 ++ [0]).length = q := by simp; omega
    rw [hql] at hi ⊢
    exact ⟨RA, rc, rfl, hi, hO⟩

theorem src_form {w : World} {A : Option Addr} {n c : Nat} {v : Bytes} (h : Src w (.slice A n c) v) (hn : 0 < n) : ∃ b off, A = some ⟨b, off, none⟩ ∧ n = v.length ∧ n ≤ c ∧ c ≤ 9223372036854775807 ∧ b < w.heap.size := by
  obtain ⟨A', c', e, ht, h3, h4, h5⟩ := h
  simp only [Value.slice.injEq] at e
  obtain ⟨rfl, rfl, rfl⟩ := e
  obtain ⟨ad, x, rfl, _, hc⟩ := ht.at_ hn
  have hs := spotF hc
  have hlt := World.block_lt_of_cell? w _ hc
  have e0 : ad.add 0 = ad := by unfold Addr.add; simp
  rw [e0] at hs hlt
  exact ⟨ad.block, ad.off, by rw [← hs], rfl, h4, h5, hlt⟩
theorem chunk_src {w : World} {b off n c m k : Nat} {v : Bytes} (h : Src w (.slice (some ⟨b, off, none⟩) n c) v) (hn : n = v.length) (hk : k * m < n) : Src w (cv b off n m k) (chunkB v m k) := by
  obtain ⟨A, c', e, ht, _, h4, h5⟩ := h
  simp only [Value.slice.injEq] at e
  obtain ⟨rfl, _, rfl⟩ := e
  subst hn
  have hl : (chunkB v m k).length = chk v.length m k := by simp [chunkB, chk]
  have h1 := (ht.drop (k * m)).take m
  refine ⟨some ⟨b, off + k * m, none⟩, chk v.length m k, by rw [hl]; rfl, ?_, (fun e => by cases e), by rw [hl]; exact Nat.le_refl _, by unfold chk; omega⟩
  rw [hl]
  have h2 := (ht.drop (k * m)).take (chk v.length m k) (by unfold chk; omega)
  rw [Addr.add_lit] at h2
  have e2 : chunkB v m k = (v.drop (k * m)).take (chk v.length m k) := by
    unfold chunkB chk
    rw [← List.length_drop, List.take_eq_take_iff]
    omega
  rw [e2]
  exact h2
theorem linksB_len (g : Int) (v : Bytes) (m : Nat) (l : List Int) (js : List Nat) : (linksB g v m l js).length = js.length := by simp [linksB]
theorem linksB_snoc (g : Int) (v : Bytes) (m : Nat) (l : List Int) (js : List Nat) (j : Nat) : linksB g v m l (js ++ [j]) = linksB g v m l js ++ [linkB g v m l js.length j] := by simp [linksB]
section
variable {b : Nat} {W w8 w9 : World} {r v' PA' : Value} {xs : List Bytes} {C : List Value} {PA : Option Addr} {pc : Nat} {x : Bytes} {o : Obj}
theorem pgs_form {w : World} {r : Value} (h : Pgs b w r xs) : ∃ RP rp C, r = .slice RP xs.length rp ∧ w.ownsRow b 27 1 (.slice RP xs.length rp) xs.length C ∧ Den (pgAt b (Value.slice RP xs.length rp).ownBlock w) xs C := by
  obtain ⟨C, h1, h2⟩ := h
  obtain ⟨RP, rp, rfl, _⟩ := raw_of_own h1
  exact ⟨RP, rp, C, rfl, h1, h2⟩
theorem pgs_snoc (hb : b ≤ W.heap.size) (hw : W.ownsRow b 27 1 r xs.length C) (hd : Den (pgAt b r.ownBlock W) xs C) (hn : New w8 W.heap.size (.slice PA x.length pc) x) (ho8 : Only (W.heap.size ≤ ·) W w8) (hg : (w8.alloc o).grownBy w9 r.ownBlock)
    (ho : w9.ownsRow b 27 1 v' (xs.length + 1) (C ++ [.slice PA x.length pc])) (hat : v'.ownBlock = r.ownBlock ∨ v'.ownBlock = some (w8.alloc o).heap.size) :
    Pgs b w9 v' (xs ++ [x]) ∧ Only (fun k => some k = r.ownBlock ∨ W.heap.size ≤ k) W w9 := by
  have hO : Only (fun k => some k = r.ownBlock ∨ W.heap.size ≤ k) W w9 := Only.grown ((ho8.alloc (fun _ h => h) o).mono fun _ h => .inr h) hg (fun _ h => .inr h) (fun g e => .inl e.symm)
  refine ⟨⟨C ++ [.slice PA x.length pc], by simpa using ho, Den.append (hd.mono fun y cs hy => ?_) (Den.single ?_)⟩, hO⟩
  · obtain ⟨A, c, e, h1, h2⟩ := hy
    have hbl : ∀ ad, A = some ad → ad.block < W.heap.size := fun ad e => by
      obtain ⟨A', c', e', _, _, _, _, h6⟩ := h1
      simp only [Value.slice.injEq] at e'
      obtain ⟨rfl, _, rfl⟩ := e'
      exact (h6 ad e).2
    refine ⟨A, c, e, h1.keepAt hO fun ad e2 h => ?_, fun ad e2 h => ?_⟩
    · rcases h with h | h
      · exact h2 ad e2 h
      · have := hbl ad e2; omega
    · have h3 := hbl ad e2
      rcases hat with h4 | h4
      · exact h2 ad e2 (h.trans h4)
      · rw [h4] at h
        have h5 := Option.some.inj h
        have := ho8.size
        simp at h5
        omega
  · have hO8 : Only (fun k => some k = r.ownBlock ∨ w8.heap.size ≤ k) w8 w9 := Only.grown (((Only.refl (w8.heap.size ≤ ·) w8).alloc (fun _ h => h) o).mono fun _ h => .inr h) hg (fun _ h => .inr h) (fun g e => .inl e.symm)
    have hbl : ∀ ad, PA = some ad → W.heap.size ≤ ad.block ∧ ad.block < w8.heap.size := fun ad e => by
      obtain ⟨A', c', e', _, _, _, _, h6⟩ := hn
      simp only [Value.slice.injEq] at e'
      obtain ⟨rfl, _, rfl⟩ := e'
      exact h6 ad e
    have hrl : ∀ k, some k = r.ownBlock → k < W.heap.size := fun k e => (World.ownsRow.lt hw k e.symm).2
    refine ⟨PA, pc, rfl, (hn.keepAt hO8 fun ad e2 h => ?_).mono hb, fun ad e2 h => ?_⟩
    · have h3 := hbl ad e2
      rcases h with h | h
      · have := hrl _ h; omega
      · omega
    · have h3 := hbl ad e2
      rcases hat with h4 | h4
      · have := hrl _ (h.trans h4); omega
      · rw [h4] at h
        have h5 := Option.some.inj h
        simp at h5
        omega
theorem links_end {w7 : World} {bl : Nat} (hon : Only (fun k => k = bl ∨ w7.heap.size ≤ k) w7 W) (hbl : bl < w7.heap.size) (hbx : Boxed W bl 43 r) (hw : W.ownsRow w7.heap.size 27 1 r xs.length C) (hd : Den (pgAt w7.heap.size r.ownBlock W) xs C) (hn : New w8 W.heap.size (.slice PA x.length pc) x) (ho8 : Only (W.heap.size ≤ ·) W w8) (hg : (w8.alloc o).grownBy w9 r.ownBlock)
    (ho : w9.ownsRow w7.heap.size 27 1 v' (xs.length + 1) (C ++ [.slice PA x.length pc])) (hat : v'.ownBlock = r.ownBlock ∨ v'.ownBlock = some (w8.alloc o).heap.size) :
    Boxed w9 bl 43 r ∧ Only (fun k => k = bl ∨ w7.heap.size ≤ k) W w9 ∧ KeepsFrom w7.heap.size W (w9.setCell ⟨bl, 0, none⟩ v') ∧ Only (fun k => k = bl ∨ w7.heap.size ≤ k) W (w9.setCell ⟨bl, 0, none⟩ v') ∧ (∃ r', Boxed (w9.setCell ⟨bl, 0, none⟩ v') bl 43 r' ∧ Pgs w7.heap.size (w9.setCell ⟨bl, 0, none⟩ v') r' (xs ++ [x])) ∧ Only (fun k => k = bl ∨ w7.heap.size ≤ k) w7 (w9.setCell ⟨bl, 0, none⟩ v') := by
  obtain ⟨h1, h2⟩ := pgs_snoc hon.size hw hd hn ho8 hg ho hat
  have hlt := World.ownsRow.lt hw
  have hb9 : Boxed w9 bl 43 r := (h2.block bl (fun h => h.elim (fun h => by have := (hlt bl h.symm).1; omega) (fun h => by have := hon.size; omega))).trans hbx
  have h3 : Only (fun k => k = bl ∨ w7.heap.size ≤ k) W w9 := h2.mono fun k h => .inr (h.elim (fun h => (hlt k h.symm).1) (fun h => Nat.le_trans hon.size h))
  have h4 := h3.setCell (p := ⟨bl, 0, none⟩) (.inl rfl) v'
  refine ⟨hb9, h3, ⟨h4.size, fun k o' hB hk hc => ?_⟩, h4, ⟨v', hb9.set v', h1.keep ((Only.refl (· = bl) w9).setCell (p := ⟨bl, 0, none⟩) rfl v') fun k hk _ e => by omega⟩, hon.trans h4⟩
  have hkl : k < W.heap.size := (Array.getElem?_eq_some_iff.1 hk).1
  have e1 : (w9.setCell ⟨bl, 0, none⟩ v').heap[k]? = w9.heap[k]? := Below.heap_setCell w9 ⟨bl, 0, none⟩ v' k (fun e => by simp only at e; omega)
  rw [e1, h2.block k (fun h => ?_), hk]
  rcases h with h | h
  · rcases hw.2 with ⟨rfl, _⟩ | ⟨g, cap, cur, rfl, _, hgb, _⟩
    · cases h
    · have e2 := Option.some.inj h
      simp only at e2
      subst e2
      rw [hk] at hgb
      cases hgb
      cases hc
  · omega
end
def zB : Value := .slice none 0 0
theorem info_B : (Tryd.prog.info? 27).map (fun i => (i.zero, i.size, i.bytes)) = some (some zB, 1, 24) := by kernel_rfl
theorem nextOf_I64 {l : List Int} (h : ∀ x ∈ l, I64 x) (k : Nat) : I64 (nextOf l k) := by
  unfold nextOf
  rw [List.getD_eq_getElem?_getD]
  cases e : (l.drop 1 ++ [0])[k]? with
  | none => exact ⟨by decide, by decide⟩
  | some x =>
    have := List.mem_of_getElem? e
    rw [List.mem_append] at this
    rcases this with h1 | h1
    · exact h x (List.mem_of_mem_drop h1)
    · simp at h1
      subst h1
      exact ⟨by decide, by decide⟩
theorem chk_I64 {n m k : Nat} (h : n ≤ 100000) : I64 (chk n m k : Nat) := by
  have : chk n m k ≤ n := by unfold chk; omega
  constructor <;> omega
theorem lnk_five (w : World) (RA : Option Addr) (q rc : Nat) (w5 : World) (h : w5 = (w.alloc (.cells #[.slice RA q rc] 28)).alloc (.cells #[.slice none 0 0] 43)) :
    Only (w.heap.size ≤ ·) w w5 ∧ Blk w5 w.heap.size 28 [.slice RA q rc] ∧ Blk w5 (w.heap.size + 1) 43 [.slice none 0 0] := by
  subst h
  refine ⟨((Only.refl _ w).alloc (fun _ h => h) _).alloc (fun _ h => h) _, (Blk.new w 28 _).alloc _, ?_⟩
  have := Blk.new (w.alloc (.cells #[.slice RA q rc] 28)) 43 [.slice none 0 0]
  simpa using this

set_option maxRecDepth 100000 in
set_option maxHeartbeats 3200000 in
theorem Olinks_c (w : World) (g : Int) (m q : Nat) (A UA : Option Addr) (n c uc : Nat) (v : Bytes) (l : List Int) (hG : Gens w) (hg : g = 1 ∨ g = 2) (hm : (m : Int) = tr g 248 240 240) (hv : Src w (.slice A n c) v) (hn0 : 0 < n) (hn : n ≤ 100000) (hu : Ints w (.slice UA q uc) l) (hq1 : 1 ≤ q) (hq : q = (n + m - 1) / m) (hI : ∀ x ∈ l, I64 x) :
    Calls Tryd.prog 35 #[.int .i64 g, .slice A n c, .slice UA q uc] w fun e w' => ∃ r, e = .returned r ∧ Pgs w.heap.size w' r (linksB g v m l (List.range q)) ∧ Only (w.heap.size ≤ ·) w w' := by
  have hm1 : 1 ≤ m := by rcases hg with rfl | rfl <;> simp [tr] at hm <;> omega
  have hm2 : m ≤ 248 := by rcases hg with rfl | rfl <;> simp [tr] at hm <;> omega
  have hqn : q ≤ n := by rw [hq]; exact le_chunks (by omega) hm1
  obtain ⟨ub, uo, x0, rfl, hub, _, _⟩ := hu.at_ (k := 0) (by omega)
  obtain ⟨P, hP⟩ : ∃ P : Option Addr, P = if uc = 1 then some ⟨ub, uo, none⟩ else (some ⟨ub, uo, none⟩ : Option Addr).map (·.add 1) := ⟨_, rfl⟩
  obtain ⟨w1, hw1⟩ : ∃ W, W = w.alloc (.cells #[.int .i64 g] 3) := ⟨_, rfl⟩
  obtain ⟨w2, hw2⟩ : ∃ W, W = w1.alloc (.cells #[.int .i64 0] 3) := ⟨_, rfl⟩
  obtain ⟨w3, hw3⟩ : ∃ W, W = w2.alloc (.cells #[.slice P (q - 1) (uc - 1), .slice (some ⟨w1.heap.size, 0, none⟩) 1 1] 28) := ⟨_, rfl⟩
  have HO1 : Hid (Only (w.heap.size ≤ ·) w w1) := Lib.hid (by rw [hw1]; exact (Only.refl _ w).alloc (fun _ h => h) _)
  have HO2 : Hid (Only (w1.heap.size ≤ ·) w1 w2) := Lib.hid (by rw [hw2]; exact (Only.refl _ w1).alloc (fun _ h => h) _)
  have HO3 : Hid (Only (w2.heap.size ≤ ·) w2 w3) := Lib.hid (by rw [hw3]; exact (Only.refl _ w2).alloc (fun _ h => h) _)
  have HO := Lib.hid (on_new (on_new HO1.out HO2.out) HO3.out)
  have HGB : Hid (Blk w3 w.heap.size 3 [.int .i64 g]) := Lib.hid (((by rw [hw1]; exact Blk.new w 3 _ : Blk w1 w.heap.size 3 [.int .i64 g]).later HO2.out).later HO3.out)
  have h2 : w2.heap.size = w1.heap.size + 1 := by rw [hw2]; simp
  have h1 : w1.heap.size = w.heap.size + 1 := by rw [hw1]; simp
  have HZB : Hid (Blk w3 w1.heap.size 3 [.int .i64 0]) := Lib.hid ((by rw [hw2]; exact Blk.new w1 3 _ : Blk w2 w1.heap.size 3 [.int .i64 0]).later HO3.out)
  have HPB : Hid (Blk w3 (w1.heap.size + 1) 28 [.slice P (q - 1) (uc - 1), .slice (some ⟨w1.heap.size, 0, none⟩) 1 1]) := Lib.hid (by rw [← h2, hw3]; exact Blk.new w2 28 _)
  have HNX := Lib.hid (next_c w3 w1.heap.size _ uc q l P hP (hu.later HO.out) hq1 (by omega) HZB.out HPB.out)
  have HQ := Lib.hid hq
  have HU := Lib.hid hu
  have HV := Lib.hid hv
  have HM := Lib.hid hm
  have HG := Lib.hid hG
  have hcap := hu.cap
  have huc1 : (1 : Int) ≤ (q : Int) := by omega
  have HWS := Lib.hid (And.intro hw1 (And.intro hw2 hw3))
  rw [h1] at HNX
  clear hq hu hv hm hG hw1 hw2 hw3 h1 h2
  refine (callsIn_wide (n := 3)).1 ?_
  refine callsIn_of_wp_marks Tryd.func35 rfl trivial ?_ rfl
  simp only [Tryd.ntmps35, List.size_toArray, List.length_cons, List.length_nil, Nat.reduceAdd, Nat.reduceSub, Array.replicate_succ, Array.replicate_zero, List.push_toArray, List.append_toArray, List.nil_append, List.cons_append]
  by_cases hu1 : uc = 1
  · rw [if_pos hu1] at hP
    subst hu1
    have HP := Lib.hid hP
    obtain rfl : q = 1 := by have := hcap.1; omega
    have HE : Hid (w3 = ((w.alloc (.cells #[.int .i64 g] 3)).alloc (.cells #[.int .i64 0] 3)).alloc (.cells #[.slice (some ⟨ub, uo, none⟩) 0 0, .slice (some ⟨w.heap.size + 1, 0, none⟩) 1 1] 28)) := Lib.hid (by obtain ⟨a, b, c⟩ := HWS.out; rw [c, b, a, HP.out]; simp)
    clear HWS hP
    gi_wp2_with (first
      | (refine ⟨trivial, ?_⟩; gi_at_call 63; rw [← HE.out]; refine (callsIn_wide.2 HNX.out).mono ?_; rintro e w4 ⟨RA, rc, rfl, hr4, ho4⟩; have HR4 := Lib.hid hr4; have HRB : Hid (∀ b off, RA = some ⟨b, off, none⟩ → b < w4.heap.size) := Lib.hid (fun b off e => by obtain ⟨b', off', _, e', hb', _⟩ := hr4.at_ (k := 0) (by omega); rw [e] at e'; cases e'; exact hb'); (replace HO := Lib.hid (on_new HO.out ho4)); (replace HGB := Lib.hid (HGB.out.later ho4)); clear ho4 hr4; have cg4 := HGB.out.cell 0; have lg4 := HGB.out.lt)
      | (refine ⟨trivial, ?_⟩; gi_at_call 21; obtain ⟨w5, hw5⟩ : ∃ W, W = (w4.alloc (.cells #[.slice RA 1 rc] 28)).alloc (.cells #[.slice none 0 0] 43) := ⟨_, rfl⟩; rw [← hw5]; obtain ⟨ho5, hB7, hB8⟩ := lnk_five w4 RA _ rc w5 hw5; (replace HO := Lib.hid (on_new HO.out ho5)); (replace HGB := Lib.hid (HGB.out.later ho5)); (replace HR4 := Lib.hid (HR4.out.later ho5)); clear cg4 hw5; refine (callsIn_wide.2 (Cap_c w5 g (HG.out.later HO.out))).mono ?_; rintro e w6 ⟨rfl, ho6⟩; rw [← HM.out]; (replace HO := Lib.hid (on_new HO.out ho6)); (replace HGB := Lib.hid (HGB.out.later ho6)); (replace HR4 := Lib.hid (HR4.out.later ho6)); have HB7 := Lib.hid (hB7.later ho6); have HB8 := Lib.hid (hB8.later ho6); have hs6 := ho6.size; have hs5 := ho5.size; have hs65 := hB8.lt; clear ho5 ho6 hB7 hB8)
      | (refine ⟨trivial, ?_⟩; gi_at_call 39; refine (callsIn_wide.2 (SChunk_c w6 A n c m (by omega))).mono ?_; rintro e w7 ⟨rfl, hw7⟩; have hs7 : w7.heap.size = w6.heap.size + 2 := (by rw [hw7]; simp); have hoD : Only (w6.heap.size ≤ ·) w6 w7 := (by rw [hw7]; exact ((Only.refl _ w6).alloc (fun _ h => h) _).alloc (fun _ h => h) _); have HS1 : Hid (Blk w7 w6.heap.size 27 [.slice A n c]) := Lib.hid (by rw [hw7]; exact (Blk.new w6 27 _).alloc _); have HS2 : Hid (Blk w7 (w6.heap.size + 1) 3 [.int .i64 m]) := Lib.hid (by rw [hw7]; have := Blk.new (w6.alloc (.cells #[.slice A n c] 27)) 3 [.int .i64 m]; simpa using this); (replace HO := Lib.hid (on_new HO.out hoD)); (replace HGB := Lib.hid (HGB.out.later hoD)); (replace HR4 := Lib.hid (HR4.out.later hoD)); (replace HB7 := Lib.hid (HB7.out.later hoD)); (replace HB8 := Lib.hid (HB8.out.later hoD)); clear hoD hw7))
    obtain ⟨b, off, rfl, hnv, hcn, hcm, hvb⟩ := src_form HV.out hn0
    have HNV := Lib.hid hnv
    clear hnv
    have HF1 : Hid (∀ k, ¬ (k = w4.heap.size + 1 ∨ w7.heap.size ≤ k) ↔ k ≠ w4.heap.size + 1 ∧ k < w7.heap.size) := Lib.hid fun k => by omega
    obtain ⟨rb, ro, x1, rfl, _, _, _⟩ := HR4.out.at_ (k := 0) (by omega)
    refine wpIn_rangeFunc_ownG rfl (by omega) (gf := 69) (lb := #[.pointer (some ⟨w6.heap.size, 0, none⟩), .pointer (some ⟨w6.heap.size + 1, 0, none⟩)]) rfl trivial (enters_of Tryd.func69 (by kernel_rfl) rfl)
      (chunk_stops 2 n m (by omega) hm1 (by omega) (by omega) w6.heap.size (w6.heap.size + 1) b off c (fun k => k = w4.heap.size + 1 ∨ w7.heap.size ≤ k) hcn hcm (by omega) (by omega) w7 HS1.out HS2.out)
      (fun h k => h.trans k) (fun W l o o' hl _ _ _ => only_putObj (Only.refl _ _) (.inr hl) _) (Below.refl _ _) (fun _ => rfl)
      (fun (pre : List (Ck n m)) W => (∃ r, Boxed W (w4.heap.size + 1) 43 r ∧ Pgs w7.heap.size W r (linksB g v m l (idxs pre))) ∧ Only (fun k => k = w4.heap.size + 1 ∨ w7.heap.size ≤ k) w7 W)
      (fun _ _ _ => False)
      (OwnFrom.and (fun _ W W' row ⟨r, hb, hp⟩ hg hr => ⟨r, boxed_turn hb hg (fun r e => (hr r e).2), hp.turn hg (fun r e => (hr r e).2)⟩) (ownFrom_only (fun _ h => .inr h) (fun _ h => .inr h)))
      (fun _ _ _ _ _ hs _ _ => hs)
      ⟨⟨_, HB8.out, Pgs.nil_ _ _⟩, Only.refl _ _⟩
      (fun x => { tmps := #[.int .i64 g, .slice (some ⟨b, off, none⟩) n c, .slice (some ⟨ub, uo, none⟩) 1 1, .pointer (some ⟨w.heap.size, 0, none⟩), undef, undef, .slice none 0 0, .pointer (some ⟨w4.heap.size, 0, none⟩), .pointer (some ⟨w4.heap.size + 1, 0, none⟩), cv b off n m x.1, .slice (some ⟨ub, uo, none⟩) 1 1, .slice (some ⟨ub, uo, none⟩) 0 0, .slice (some ⟨w.heap.size + 1, 0, none⟩) 1 1, .slice (some ⟨w.heap.size + 1 + 1, 0, none⟩) 2 2, .slice (some ⟨rb, ro, none⟩) 1 rc, .slice (some ⟨b, off, none⟩) n c, .int .i64 g, .int .i64 m, .func (.func 69) #[] #[.pointer (some ⟨w6.heap.size, 0, none⟩), .pointer (some ⟨w6.heap.size + 1, 0, none⟩)], cv b off n m x.1, undef, undef, undef, undef, undef, undef, undef, undef, undef, undef, undef, undef, undef, undef], defers := [] }) ?assign ?body ?done ?stop
    case assign =>
      intro l' x W K hK
      gi_wp2
      exact hK
    case body =>
      rintro l' pre ⟨x, hx⟩ W ⟨⟨r, hbx, hpg⟩, hon⟩ hlt
      obtain ⟨iB, hiB, hiB0, hiB1, hiB2⟩ := info_parts info_B
      have HIB := Lib.hid (And.intro hiB (And.intro hiB0 (And.intro hiB1 hiB2)))
      obtain ⟨RP, rp, C, rfl, hw, hd⟩ := pgs_form hpg
      have HLL : Hid ((linksB g v m l (idxs pre)).length = pre.length) := Lib.hid (by rw [linksB_len, idxs_len])
      rw [HLL.out] at hw hd hbx
      have HW := Lib.hid hw
      have HD := Lib.hid hd
      have HBX := Lib.hid hbx
      have HON := Lib.hid hon
      have HLT := Lib.hid hlt
      have HBL : Hid (w4.heap.size + 1 < w7.heap.size) := Lib.hid (by omega)
      have HLN : Hid (pre.length ≤ 100000) := Lib.hid (by have := HLT.out; rw [← HQ.out] at this; omega)
      have hpq : pre.length < 1 := by have := HLT.out; rw [← HQ.out] at this; exact this
      have HWO : Hid (Only (w.heap.size ≤ ·) w W) := Lib.hid (HO.out.trans (hon.mono fun k hk => by have := HO.out.size; rcases hk with hk | hk <;> omega))
      have hpq' : (pre.length : Int) < 1 := by omega
      obtain ⟨rb', ro', xn, ern, hrb, hxn, hcn⟩ := HR4.out.at_ (k := pre.length) hpq
      cases ern
      have hxn' : xn = nextOf l pre.length := by unfold nextOf; rw [List.getD_eq_getElem?_getD, hxn]; rfl
      rw [hxn'] at hcn
      have HFW : Hid (∀ W' : World, Only (W.heap.size ≤ ·) W W' → Only (fun k => k = w4.heap.size + 1 ∨ w7.heap.size ≤ k) W W') := Lib.hid fun W' hW' => hW'.mono fun k hk => .inr (Nat.le_trans HON.out.size hk)
      have HKC : Hid (∀ W' : World, Only (fun k => k = w4.heap.size + 1 ∨ w7.heap.size ≤ k) W W' → W'.cell? ⟨w.heap.size, 0, none⟩ = some (.int .i64 g) ∧ W'.cell? ⟨w4.heap.size, 0, none⟩ = some (.slice (some ⟨rb, ro, none⟩) 1 rc) ∧ W'.cell? ⟨rb, ro + pre.length, none⟩ = some (.int .i64 (nextOf l pre.length))) := Lib.hid fun W' hW' => by
        have hs := hon.size
        have kc : ∀ p : Addr, p.block < w7.heap.size → p.block ≠ w4.heap.size + 1 → W'.cell? p = w7.cell? p := fun p h1 h2 => (hW'.cell (by omega)).trans (hon.cell (by omega))
        refine ⟨(kc _ (by simp only; omega) (by simp only; omega)).trans (HGB.out.cell 0), (kc _ (by simp only; omega) (by simp only; omega)).trans (HB7.out.cell 0), (kc _ hrb (by have := HRB.out rb ro rfl; simp only; omega)).trans hcn⟩
      have hI1 := nextOf_I64 hI pre.length
      have HWR : Hid (∀ W', Only (W.heap.size ≤ ·) W W' → Calls Tryd.prog 64 #[.int .i64 g, .int .i64 (chk n m x : Nat), .int .i64 (nextOf l pre.length), cv b off n m x] W' (GaveW W' (linkB g v m l pre.length x))) := Lib.hid fun W' hW' => by
        have h1 := on_new HWO.out hW'
        have e1 : linkB g v m l pre.length x = wrapB 79 g (chk n m x : Nat) (nextOf l pre.length) (chunkB v m x) := by unfold linkB; rw [← HNV.out]
        rw [e1]
        exact Owrap_c W' g _ _ _ _ (HG.out.later h1) ((chunk_src HV.out HNV.out hx).later h1) (by rcases hg with rfl | rfl <;> (constructor <;> decide)) (chk_I64 (by omega)) hI1
      clear hw hd hbx hon hlt hpg hxn hcn hrb hxn' hI1 hpq
      unfold cv at HWR
      have c7 := Boxed.cell HBX.out
      gi_wp2
      unfold cv
      refine wpIn_round_list (B := [false, false, false, false, false, false, false, false, false, false, false, false, false, false]) (S := (fun W' => W'.cell? ⟨w.heap.size, 0, none⟩ = some (.int .i64 g) ∧ W'.cell? ⟨w4.heap.size, 0, none⟩ = some (.slice (some ⟨rb, ro, none⟩) 1 rc) ∧ W'.cell? ⟨rb, ro + pre.length, none⟩ = some (.int .i64 (nextOf l pre.length)))) (fun h => by obtain ⟨_, _, h⟩ := h; exact h) (by kernel_rfl) (by kernel_rfl) (by kernel_rfl) (by kernel_rfl) (HKC.out _ (HFW.out _ (Only.refl _ W).drew)) (fun hsel hHeld => ?_)
      refine oneA 1 21 hsel (h := ?_)
      simp only [Act.put, List.setIfInBounds_toArray, List.set_cons_zero, List.set_cons_succ]
      refine oneA 2 22 hsel (h := ?_)
      simp only [Act.put, List.setIfInBounds_toArray, List.set_cons_zero, List.set_cons_succ]
      refine oneA 3 23 hsel (h := ?_)
      simp only [Act.put, List.setIfInBounds_toArray, List.set_cons_zero, List.set_cons_succ]
      refine oneA 4 24 hsel (h := ?_)
      simp only [Act.put, List.setIfInBounds_toArray, List.set_cons_zero, List.set_cons_succ]
      refine oneA 9 29 hsel (h := ?_)
      simp only [Act.put, List.setIfInBounds_toArray, List.set_cons_zero, List.set_cons_succ]
      refine wpAnyL_ready (rs := [0, 5]) (by kernel_rfl) (by kernel_rfl) (by simp) ?_
      refine AllReadyL.cons (o := ?_) ?_ (fun K hK => ?_) (AllReadyL.cons (o := ?_) ?_ (fun K hK => ?_) AllReadyL.nil)
      case refine_2 => (simp only [List.getElem?_cons_zero]; rfl)
      case refine_5 => (simp only [List.getElem?_cons_succ, List.getElem?_cons_zero]; rfl)
      case refine_3 =>
        go_simp
        clear hHeld
        refine hK.out _ _ (HKC.out _ (by first | exact HFW.out _ (Only.refl _ W).drew | exact HFW.out _ HO8.out | exact HFW.out _ (HO8.out.alloc (fun _ h => h) _))) (fun hHeld => ?_)
        clear hK K
        try simp only [List.set_cons_zero]
        refine wpAnyL_ready (rs := [5]) (by kernel_rfl) (by kernel_rfl) (by simp) ?_
        refine AllReadyL.cons (o := ?_) ?_ (fun K hK => ?_) AllReadyL.nil
        case refine_2 => (simp only [List.getElem?_cons_succ, List.getElem?_cons_zero]; rfl)
        go_simp
        clear hHeld
        refine hK.out _ _ (HKC.out _ (by first | exact HFW.out _ (Only.refl _ W).drew | exact HFW.out _ HO8.out | exact HFW.out _ (HO8.out.alloc (fun _ h => h) _))) (fun hHeld => ?_)
        clear hK K
        try simp only [List.set_cons_zero, List.set_cons_succ]
        refine oneA 6 26 hsel (h := ?_)
        simp only [Act.put, List.setIfInBounds_toArray, List.set_cons_zero, List.set_cons_succ]
        refine oneA 7 27 hsel (h := ?_)
        simp only [Act.put, List.setIfInBounds_toArray, List.set_cons_zero, List.set_cons_succ]
        refine oneA 8 28 hsel (h := ?_)
        simp only [Act.put, List.setIfInBounds_toArray, List.set_cons_zero, List.set_cons_succ]
        refine wpAnyL_ready (rs := [10]) (by kernel_rfl) (by kernel_rfl) (by simp) ?_
        refine AllReadyL.cons (o := ?_) ?_ (fun K hK => ?_) AllReadyL.nil
        case refine_2 => (simp only [List.getElem?_cons_succ, List.getElem?_cons_zero]; rfl)
        go_simp
        (go_at_call 64; (with_reducible refine (HWR.out _ (Only.refl _ W).drew).mono ?_); rintro ee w8 ⟨pv, rfl, hnew, ho8⟩; (replace ho8 : Only (W.heap.size ≤ ·) W w8 := (Only.refl _ W).drew.trans ho8); have HN8 := Lib.hid hnew; (obtain ⟨PA, pc, rfl, _⟩ := hnew); have HO8 := Lib.hid ho8; have c8 := (ho8.cell (p := ⟨w4.heap.size + 1, 0, none⟩) (Nat.not_le.2 (Boxed.lt HBX.out))).trans HBX.out.cell; have l8 := Nat.lt_of_lt_of_le (Boxed.lt HBX.out) ho8.size; clear ho8)
        clear hHeld
        refine hK.out _ _ (HKC.out _ (HFW.out _ HO8.out)) (fun hHeld => ?_)
        clear hK K
        try simp only [List.set_cons_zero, List.set_cons_succ]
        refine wpAnyL_ready (rs := [11]) (by kernel_rfl) (by kernel_rfl) (by simp) ?_
        refine AllReadyL.cons (o := ?_) ?_ (fun K hK => ?_) AllReadyL.nil
        case refine_2 => (simp only [List.getElem?_cons_succ, List.getElem?_cons_zero]; rfl)
        go_simp
        clear hHeld
        refine hK.out _ _ (HKC.out _ (HFW.out _ (HO8.out.alloc (fun _ h => h) _))) (fun hHeld => ?_)
        clear hK K
        try simp only [List.set_cons_zero, List.set_cons_succ]
        refine wpAnyL_ready (rs := [12]) (by kernel_rfl) (by kernel_rfl) (by simp) ?_
        refine AllReadyL.cons (o := ?_) ?_ (fun K hK => ?_) AllReadyL.nil
        case refine_2 => (simp only [List.getElem?_cons_succ, List.getElem?_cons_zero]; rfl)
        rw [if_pos (by kernel_rfl)]
        refine wp_append_at (.tmp 20) (.tmp 31) 43 rfl w7.heap.size 27 iB zB 1 24 Tryd.underlying43 HIB.out.1 HIB.out.2.1 HIB.out.2.2.1 HIB.out.2.2.2 (by rfl) (by omega) (.slice RP pre.length rp) pre.length C rfl (own_later HW.out (HO8.out.alloc (fun _ h => h) _)) ⟨w8.heap.size, 0, none⟩ 1 1 [.slice PA _ pc] rfl rfl (fun j u hu => by rw [Addr.add_lit, (Blk.new w8 27 _).cell, Nat.zero_add]; exact hu) (by simp [Value.oneCell']) (by have := HLN.out; simp only [maxLen]; omega) (by have := HLN.out; omega) (by have := HON.out.size; have := HO8.out.size; simp; omega) ?_
        intro v' w9 ho' hg' hat'
        have HE9 := Lib.hid (links_end HON.out HBL.out HBX.out (by rw [HLL.out]; exact HW.out) HD.out HN8.out HO8.out hg' (by rw [HLL.out]; exact ho') hat')
        obtain ⟨g9, c9, rfl⟩ := ownsRow_succ ho'
        have hx9 := HE9.out.1.cell
        have hf9 := HE9.out.1.frozen
        clear ho' hg' hat'
        clear hHeld
        refine hK.out _ _ (HKC.out _ HE9.out.2.1) (fun hHeld => ?_)
        clear hK K
        try simp only [Act.put, List.setIfInBounds_toArray, List.set_cons_zero, List.set_cons_succ]
        refine wpAnyL_ready (rs := [13]) (by kernel_rfl) (by kernel_rfl) (by simp) ?_
        refine AllReadyL.cons (o := ?_) ?_ (fun K hK => ?_) AllReadyL.nil
        case refine_2 => (simp only [List.getElem?_cons_succ, List.getElem?_cons_zero]; rfl)
        go_simp
        clear hHeld
        refine hK.out _ _ (HKC.out _ HE9.out.2.2.2.1) (fun hHeld => ?_)
        clear hK K
        try simp only [List.set_cons_zero, List.set_cons_succ]
        refine wpAnyL_done (by kernel_rfl) (by kernel_rfl) ?_ _
        clear hsel hHeld
        exact ⟨HE9.out.2.2.1, HE9.out.2.2.2.1, by have h := HE9.out.2.2.2.2.1; have e1 : idxs (pre ++ [⟨x, hx⟩]) = idxs pre ++ [x] := idxs_snoc _ _; rw [e1, linksB_snoc, idxs_len]; exact h, HE9.out.2.2.2.2.2⟩
      case refine_6 =>
        go_simp
        clear hHeld
        refine hK.out _ _ (HKC.out _ (by first | exact HFW.out _ (Only.refl _ W).drew | exact HFW.out _ HO8.out | exact HFW.out _ (HO8.out.alloc (fun _ h => h) _))) (fun hHeld => ?_)
        clear hK K
        try simp only [List.set_cons_zero, List.set_cons_succ]
        refine oneA 6 26 hsel (h := ?_)
        simp only [Act.put, List.setIfInBounds_toArray, List.set_cons_zero, List.set_cons_succ]
        refine oneA 7 27 hsel (h := ?_)
        simp only [Act.put, List.setIfInBounds_toArray, List.set_cons_zero, List.set_cons_succ]
        refine oneA 8 28 hsel (h := ?_)
        simp only [Act.put, List.setIfInBounds_toArray, List.set_cons_zero, List.set_cons_succ]
        refine wpAnyL_ready (rs := [0, 10]) (by kernel_rfl) (by kernel_rfl) (by simp) ?_
        refine AllReadyL.cons (o := ?_) ?_ (fun K hK => ?_) (AllReadyL.cons (o := ?_) ?_ (fun K hK => ?_) AllReadyL.nil)
        case refine_2 => (simp only [List.getElem?_cons_zero]; rfl)
        case refine_5 => (simp only [List.getElem?_cons_succ, List.getElem?_cons_zero]; rfl)
        case refine_3 =>
          go_simp
          clear hHeld
          refine hK.out _ _ (HKC.out _ (by first | exact HFW.out _ (Only.refl _ W).drew | exact HFW.out _ HO8.out | exact HFW.out _ (HO8.out.alloc (fun _ h => h) _))) (fun hHeld => ?_)
          clear hK K
          try simp only [List.set_cons_zero]
          refine wpAnyL_ready (rs := [10]) (by kernel_rfl) (by kernel_rfl) (by simp) ?_
          refine AllReadyL.cons (o := ?_) ?_ (fun K hK => ?_) AllReadyL.nil
          case refine_2 => (simp only [List.getElem?_cons_succ, List.getElem?_cons_zero]; rfl)
          go_simp
          (go_at_call 64; (with_reducible refine (HWR.out _ (Only.refl _ W).drew).mono ?_); rintro ee w8 ⟨pv, rfl, hnew, ho8⟩; (replace ho8 : Only (W.heap.size ≤ ·) W w8 := (Only.refl _ W).drew.trans ho8); have HN8 := Lib.hid hnew; (obtain ⟨PA, pc, rfl, _⟩ := hnew); have HO8 := Lib.hid ho8; have c8 := (ho8.cell (p := ⟨w4.heap.size + 1, 0, none⟩) (Nat.not_le.2 (Boxed.lt HBX.out))).trans HBX.out.cell; have l8 := Nat.lt_of_lt_of_le (Boxed.lt HBX.out) ho8.size; clear ho8)
          clear hHeld
          refine hK.out _ _ (HKC.out _ (HFW.out _ HO8.out)) (fun hHeld => ?_)
          clear hK K
          try simp only [List.set_cons_zero, List.set_cons_succ]
          refine wpAnyL_ready (rs := [11]) (by kernel_rfl) (by kernel_rfl) (by simp) ?_
          refine AllReadyL.cons (o := ?_) ?_ (fun K hK => ?_) AllReadyL.nil
          case refine_2 => (simp only [List.getElem?_cons_succ, List.getElem?_cons_zero]; rfl)
          go_simp
          clear hHeld
          refine hK.out _ _ (HKC.out _ (HFW.out _ (HO8.out.alloc (fun _ h => h) _))) (fun hHeld => ?_)
          clear hK K
          try simp only [List.set_cons_zero, List.set_cons_succ]
          refine wpAnyL_ready (rs := [12]) (by kernel_rfl) (by kernel_rfl) (by simp) ?_
          refine AllReadyL.cons (o := ?_) ?_ (fun K hK => ?_) AllReadyL.nil
          case refine_2 => (simp only [List.getElem?_cons_succ, List.getElem?_cons_zero]; rfl)
          rw [if_pos (by kernel_rfl)]
          refine wp_append_at (.tmp 20) (.tmp 31) 43 rfl w7.heap.size 27 iB zB 1 24 Tryd.underlying43 HIB.out.1 HIB.out.2.1 HIB.out.2.2.1 HIB.out.2.2.2 (by rfl) (by omega) (.slice RP pre.length rp) pre.length C rfl (own_later HW.out (HO8.out.alloc (fun _ h => h) _)) ⟨w8.heap.size, 0, none⟩ 1 1 [.slice PA _ pc] rfl rfl (fun j u hu => by rw [Addr.add_lit, (Blk.new w8 27 _).cell, Nat.zero_add]; exact hu) (by simp [Value.oneCell']) (by have := HLN.out; simp only [maxLen]; omega) (by have := HLN.out; omega) (by have := HON.out.size; have := HO8.out.size; simp; omega) ?_
          intro v' w9 ho' hg' hat'
          have HE9 := Lib.hid (links_end HON.out HBL.out HBX.out (by rw [HLL.out]; exact HW.out) HD.out HN8.out HO8.out hg' (by rw [HLL.out]; exact ho') hat')
          obtain ⟨g9, c9, rfl⟩ := ownsRow_succ ho'
          have hx9 := HE9.out.1.cell
          have hf9 := HE9.out.1.frozen
          clear ho' hg' hat'
          clear hHeld
          refine hK.out _ _ (HKC.out _ HE9.out.2.1) (fun hHeld => ?_)
          clear hK K
          try simp only [Act.put, List.setIfInBounds_toArray, List.set_cons_zero, List.set_cons_succ]
          refine wpAnyL_ready (rs := [13]) (by kernel_rfl) (by kernel_rfl) (by simp) ?_
          refine AllReadyL.cons (o := ?_) ?_ (fun K hK => ?_) AllReadyL.nil
          case refine_2 => (simp only [List.getElem?_cons_succ, List.getElem?_cons_zero]; rfl)
          go_simp
          clear hHeld
          refine hK.out _ _ (HKC.out _ HE9.out.2.2.2.1) (fun hHeld => ?_)
          clear hK K
          try simp only [List.set_cons_zero, List.set_cons_succ]
          refine wpAnyL_done (by kernel_rfl) (by kernel_rfl) ?_ _
          clear hsel hHeld
          exact ⟨HE9.out.2.2.1, HE9.out.2.2.2.1, by have h := HE9.out.2.2.2.2.1; have e1 : idxs (pre ++ [⟨x, hx⟩]) = idxs pre ++ [x] := idxs_snoc _ _; rw [e1, linksB_snoc, idxs_len]; exact h, HE9.out.2.2.2.2.2⟩
        case refine_6 =>
          go_simp
          (go_at_call 64; (with_reducible refine (HWR.out _ (Only.refl _ W).drew).mono ?_); rintro ee w8 ⟨pv, rfl, hnew, ho8⟩; (replace ho8 : Only (W.heap.size ≤ ·) W w8 := (Only.refl _ W).drew.trans ho8); have HN8 := Lib.hid hnew; (obtain ⟨PA, pc, rfl, _⟩ := hnew); have HO8 := Lib.hid ho8; have c8 := (ho8.cell (p := ⟨w4.heap.size + 1, 0, none⟩) (Nat.not_le.2 (Boxed.lt HBX.out))).trans HBX.out.cell; have l8 := Nat.lt_of_lt_of_le (Boxed.lt HBX.out) ho8.size; clear ho8)
          clear hHeld
          refine hK.out _ _ (HKC.out _ (HFW.out _ HO8.out)) (fun hHeld => ?_)
          clear hK K
          try simp only [List.set_cons_zero, List.set_cons_succ]
          refine wpAnyL_ready (rs := [0, 11]) (by kernel_rfl) (by kernel_rfl) (by simp) ?_
          refine AllReadyL.cons (o := ?_) ?_ (fun K hK => ?_) (AllReadyL.cons (o := ?_) ?_ (fun K hK => ?_) AllReadyL.nil)
          case refine_2 => (simp only [List.getElem?_cons_zero]; rfl)
          case refine_5 => (simp only [List.getElem?_cons_succ, List.getElem?_cons_zero]; rfl)
          case refine_3 =>
            go_simp
            clear hHeld
            refine hK.out _ _ (HKC.out _ (by first | exact HFW.out _ (Only.refl _ W).drew | exact HFW.out _ HO8.out | exact HFW.out _ (HO8.out.alloc (fun _ h => h) _))) (fun hHeld => ?_)
            clear hK K
            try simp only [List.set_cons_zero]
            refine wpAnyL_ready (rs := [11]) (by kernel_rfl) (by kernel_rfl) (by simp) ?_
            refine AllReadyL.cons (o := ?_) ?_ (fun K hK => ?_) AllReadyL.nil
            case refine_2 => (simp only [List.getElem?_cons_succ, List.getElem?_cons_zero]; rfl)
            go_simp
            clear hHeld
            refine hK.out _ _ (HKC.out _ (HFW.out _ (HO8.out.alloc (fun _ h => h) _))) (fun hHeld => ?_)
            clear hK K
            try simp only [List.set_cons_zero, List.set_cons_succ]
            refine wpAnyL_ready (rs := [12]) (by kernel_rfl) (by kernel_rfl) (by simp) ?_
            refine AllReadyL.cons (o := ?_) ?_ (fun K hK => ?_) AllReadyL.nil
            case refine_2 => (simp only [List.getElem?_cons_succ, List.getElem?_cons_zero]; rfl)
            rw [if_pos (by kernel_rfl)]
            refine wp_append_at (.tmp 20) (.tmp 31) 43 rfl w7.heap.size 27 iB zB 1 24 Tryd.underlying43 HIB.out.1 HIB.out.2.1 HIB.out.2.2.1 HIB.out.2.2.2 (by rfl) (by omega) (.slice RP pre.length rp) pre.length C rfl (own_later HW.out (HO8.out.alloc (fun _ h => h) _)) ⟨w8.heap.size, 0, none⟩ 1 1 [.slice PA _ pc] rfl rfl (fun j u hu => by rw [Addr.add_lit, (Blk.new w8 27 _).cell, Nat.zero_add]; exact hu) (by simp [Value.oneCell']) (by have := HLN.out; simp only [maxLen]; omega) (by have := HLN.out; omega) (by have := HON.out.size; have := HO8.out.size; simp; omega) ?_
            intro v' w9 ho' hg' hat'
            have HE9 := Lib.hid (links_end HON.out HBL.out HBX.out (by rw [HLL.out]; exact HW.out) HD.out HN8.out HO8.out hg' (by rw [HLL.out]; exact ho') hat')
            obtain ⟨g9, c9, rfl⟩ := ownsRow_succ ho'
            have hx9 := HE9.out.1.cell
            have hf9 := HE9.out.1.frozen
            clear ho' hg' hat'
            clear hHeld
            refine hK.out _ _ (HKC.out _ HE9.out.2.1) (fun hHeld => ?_)
            clear hK K
            try simp only [Act.put, List.setIfInBounds_toArray, List.set_cons_zero, List.set_cons_succ]
            refine wpAnyL_ready (rs := [13]) (by kernel_rfl) (by kernel_rfl) (by simp) ?_
            refine AllReadyL.cons (o := ?_) ?_ (fun K hK => ?_) AllReadyL.nil
            case refine_2 => (simp only [List.getElem?_cons_succ, List.getElem?_cons_zero]; rfl)
            go_simp
            clear hHeld
            refine hK.out _ _ (HKC.out _ HE9.out.2.2.2.1) (fun hHeld => ?_)
            clear hK K
            try simp only [List.set_cons_zero, List.set_cons_succ]
            refine wpAnyL_done (by kernel_rfl) (by kernel_rfl) ?_ _
            clear hsel hHeld
            exact ⟨HE9.out.2.2.1, HE9.out.2.2.2.1, by have h := HE9.out.2.2.2.2.1; have e1 : idxs (pre ++ [⟨x, hx⟩]) = idxs pre ++ [x] := idxs_snoc _ _; rw [e1, linksB_snoc, idxs_len]; exact h, HE9.out.2.2.2.2.2⟩
          case refine_6 =>
            go_simp
            clear hHeld
            refine hK.out _ _ (HKC.out _ (HFW.out _ (HO8.out.alloc (fun _ h => h) _))) (fun hHeld => ?_)
            clear hK K
            try simp only [List.set_cons_zero, List.set_cons_succ]
            refine wpAnyL_ready (rs := [0]) (by kernel_rfl) (by kernel_rfl) (by simp) ?_
            refine AllReadyL.cons (o := ?_) ?_ (fun K hK => ?_) AllReadyL.nil
            case refine_2 => (simp only [List.getElem?_cons_zero]; rfl)
            go_simp
            clear hHeld
            refine hK.out _ _ (HKC.out _ (by first | exact HFW.out _ (Only.refl _ W).drew | exact HFW.out _ HO8.out | exact HFW.out _ (HO8.out.alloc (fun _ h => h) _))) (fun hHeld => ?_)
            clear hK K
            try simp only [List.set_cons_zero]
            refine wpAnyL_ready (rs := [12]) (by kernel_rfl) (by kernel_rfl) (by simp) ?_
            refine AllReadyL.cons (o := ?_) ?_ (fun K hK => ?_) AllReadyL.nil
            case refine_2 => (simp only [List.getElem?_cons_succ, List.getElem?_cons_zero]; rfl)
            rw [if_pos (by kernel_rfl)]
            refine wp_append_at (.tmp 20) (.tmp 31) 43 rfl w7.heap.size 27 iB zB 1 24 Tryd.underlying43 HIB.out.1 HIB.out.2.1 HIB.out.2.2.1 HIB.out.2.2.2 (by rfl) (by omega) (.slice RP pre.length rp) pre.length C rfl (own_later HW.out (HO8.out.alloc (fun _ h => h) _)) ⟨w8.heap.size, 0, none⟩ 1 1 [.slice PA _ pc] rfl rfl (fun j u hu => by rw [Addr.add_lit, (Blk.new w8 27 _).cell, Nat.zero_add]; exact hu) (by simp [Value.oneCell']) (by have := HLN.out; simp only [maxLen]; omega) (by have := HLN.out; omega) (by have := HON.out.size; have := HO8.out.size; simp; omega) ?_
            intro v' w9 ho' hg' hat'
            have HE9 := Lib.hid (links_end HON.out HBL.out HBX.out (by rw [HLL.out]; exact HW.out) HD.out HN8.out HO8.out hg' (by rw [HLL.out]; exact ho') hat')
            obtain ⟨g9, c9, rfl⟩ := ownsRow_succ ho'
            have hx9 := HE9.out.1.cell
            have hf9 := HE9.out.1.frozen
            clear ho' hg' hat'
            clear hHeld
            refine hK.out _ _ (HKC.out _ HE9.out.2.1) (fun hHeld => ?_)
            clear hK K
            try simp only [Act.put, List.setIfInBounds_toArray, List.set_cons_zero, List.set_cons_succ]
            refine wpAnyL_ready (rs := [13]) (by kernel_rfl) (by kernel_rfl) (by simp) ?_
            refine AllReadyL.cons (o := ?_) ?_ (fun K hK => ?_) AllReadyL.nil
            case refine_2 => (simp only [List.getElem?_cons_succ, List.getElem?_cons_zero]; rfl)
            go_simp
            clear hHeld
            refine hK.out _ _ (HKC.out _ HE9.out.2.2.2.1) (fun hHeld => ?_)
            clear hK K
            try simp only [List.set_cons_zero, List.set_cons_succ]
            refine wpAnyL_done (by kernel_rfl) (by kernel_rfl) ?_ _
            clear hsel hHeld
            exact ⟨HE9.out.2.2.1, HE9.out.2.2.2.1, by have h := HE9.out.2.2.2.2.1; have e1 : idxs (pre ++ [⟨x, hx⟩]) = idxs pre ++ [x] := idxs_snoc _ _; rw [e1, linksB_snoc, idxs_len]; exact h, HE9.out.2.2.2.2.2⟩
    case done =>
      rintro D ys W hD hys ⟨⟨r, hbx, hpg⟩, hon⟩ hK
      have hc := Boxed.cell hbx
      have HPG := Lib.hid hpg
      have HON := Lib.hid hon
      have HYS := Lib.hid hys
      obtain ⟨RP, rp, C, rfl, _, _⟩ := pgs_form hpg
      clear hpg hon hys hbx
      obtain ⟨N, hN⟩ : ∃ N, N = (linksB g v m l (idxs ys)).length := ⟨_, rfl⟩
      rw [← hN] at HPG hc
      rw [HYS.out, ← HQ.out] at HPG
      clear hN
      gi_wp2
      refine ⟨by simp, .inl ⟨_, _, rfl, run_takeDeferred hK, ?_⟩⟩
      refine ⟨_, results_tmp rfl _ _ _, _, rfl, ?_, ?_⟩
      · have h1 := HPG.out.turn (grownBy_putObj' W D (.deferred none)) (fun r e => by cases e; exact ⟨_, hK, rfl⟩)
        exact h1.mono HO.out.size
      · exact only_putObj (HO.out.trans (HON.out.mono fun k hk => by have := HO.out.size; rcases hk with hk | hk <;> omega)) (Nat.le_trans HO.out.size hD) _
    case stop =>
      rintro D cc pre W _ _ h _
      exact h.elim
  · rw [if_neg hu1, Option.map_some, Addr.add_lit] at hP
    have HP := Lib.hid hP
    have HE : Hid (w3 = ((w.alloc (.cells #[.int .i64 g] 3)).alloc (.cells #[.int .i64 0] 3)).alloc (.cells #[.slice (some ⟨ub, uo + 1, none⟩) (q - 1) (uc - 1), .slice (some ⟨w.heap.size + 1, 0, none⟩) 1 1] 28)) := Lib.hid (by obtain ⟨a, b, c⟩ := HWS.out; rw [c, b, a, HP.out]; simp)
    clear HWS hP
    gi_wp2_with (first
      | (refine ⟨trivial, ?_⟩; gi_at_call 63; rw [← HE.out]; refine (callsIn_wide.2 HNX.out).mono ?_; rintro e w4 ⟨RA, rc, rfl, hr4, ho4⟩; have HR4 := Lib.hid hr4; have HRB : Hid (∀ b off, RA = some ⟨b, off, none⟩ → b < w4.heap.size) := Lib.hid (fun b off e => by obtain ⟨b', off', _, e', hb', _⟩ := hr4.at_ (k := 0) (by omega); rw [e] at e'; cases e'; exact hb'); (replace HO := Lib.hid (on_new HO.out ho4)); (replace HGB := Lib.hid (HGB.out.later ho4)); clear ho4 hr4; have cg4 := HGB.out.cell 0; have lg4 := HGB.out.lt)
      | (refine ⟨trivial, ?_⟩; gi_at_call 21; obtain ⟨w5, hw5⟩ : ∃ W, W = (w4.alloc (.cells #[.slice RA q rc] 28)).alloc (.cells #[.slice none 0 0] 43) := ⟨_, rfl⟩; rw [← hw5]; obtain ⟨ho5, hB7, hB8⟩ := lnk_five w4 RA _ rc w5 hw5; (replace HO := Lib.hid (on_new HO.out ho5)); (replace HGB := Lib.hid (HGB.out.later ho5)); (replace HR4 := Lib.hid (HR4.out.later ho5)); clear cg4 hw5; refine (callsIn_wide.2 (Cap_c w5 g (HG.out.later HO.out))).mono ?_; rintro e w6 ⟨rfl, ho6⟩; rw [← HM.out]; (replace HO := Lib.hid (on_new HO.out ho6)); (replace HGB := Lib.hid (HGB.out.later ho6)); (replace HR4 := Lib.hid (HR4.out.later ho6)); have HB7 := Lib.hid (hB7.later ho6); have HB8 := Lib.hid (hB8.later ho6); have hs6 := ho6.size; have hs5 := ho5.size; have hs65 := hB8.lt; clear ho5 ho6 hB7 hB8)
      | (refine ⟨trivial, ?_⟩; gi_at_call 39; refine (callsIn_wide.2 (SChunk_c w6 A n c m (by omega))).mono ?_; rintro e w7 ⟨rfl, hw7⟩; have hs7 : w7.heap.size = w6.heap.size + 2 := (by rw [hw7]; simp); have hoD : Only (w6.heap.size ≤ ·) w6 w7 := (by rw [hw7]; exact ((Only.refl _ w6).alloc (fun _ h => h) _).alloc (fun _ h => h) _); have HS1 : Hid (Blk w7 w6.heap.size 27 [.slice A n c]) := Lib.hid (by rw [hw7]; exact (Blk.new w6 27 _).alloc _); have HS2 : Hid (Blk w7 (w6.heap.size + 1) 3 [.int .i64 m]) := Lib.hid (by rw [hw7]; have := Blk.new (w6.alloc (.cells #[.slice A n c] 27)) 3 [.int .i64 m]; simpa using this); (replace HO := Lib.hid (on_new HO.out hoD)); (replace HGB := Lib.hid (HGB.out.later hoD)); (replace HR4 := Lib.hid (HR4.out.later hoD)); (replace HB7 := Lib.hid (HB7.out.later hoD)); (replace HB8 := Lib.hid (HB8.out.later hoD)); clear hoD hw7))
    obtain ⟨b, off, rfl, hnv, hcn, hcm, hvb⟩ := src_form HV.out hn0
    have HNV := Lib.hid hnv
    clear hnv
    have HF1 : Hid (∀ k, ¬ (k = w4.heap.size + 1 ∨ w7.heap.size ≤ k) ↔ k ≠ w4.heap.size + 1 ∧ k < w7.heap.size) := Lib.hid fun k => by omega
    obtain ⟨rb, ro, x1, rfl, _, _, _⟩ := HR4.out.at_ (k := 0) (by omega)
    refine wpIn_rangeFunc_ownG rfl (by omega) (gf := 69) (lb := #[.pointer (some ⟨w6.heap.size, 0, none⟩), .pointer (some ⟨w6.heap.size + 1, 0, none⟩)]) rfl trivial (enters_of Tryd.func69 (by kernel_rfl) rfl)
      (chunk_stops 2 n m (by omega) hm1 (by omega) (by omega) w6.heap.size (w6.heap.size + 1) b off c (fun k => k = w4.heap.size + 1 ∨ w7.heap.size ≤ k) hcn hcm (by omega) (by omega) w7 HS1.out HS2.out)
      (fun h k => h.trans k) (fun W l o o' hl _ _ _ => only_putObj (Only.refl _ _) (.inr hl) _) (Below.refl _ _) (fun _ => rfl)
      (fun (pre : List (Ck n m)) W => (∃ r, Boxed W (w4.heap.size + 1) 43 r ∧ Pgs w7.heap.size W r (linksB g v m l (idxs pre))) ∧ Only (fun k => k = w4.heap.size + 1 ∨ w7.heap.size ≤ k) w7 W)
      (fun _ _ _ => False)
      (OwnFrom.and (fun _ W W' row ⟨r, hb, hp⟩ hg hr => ⟨r, boxed_turn hb hg (fun r e => (hr r e).2), hp.turn hg (fun r e => (hr r e).2)⟩) (ownFrom_only (fun _ h => .inr h) (fun _ h => .inr h)))
      (fun _ _ _ _ _ hs _ _ => hs)
      ⟨⟨_, HB8.out, Pgs.nil_ _ _⟩, Only.refl _ _⟩
      (fun x => { tmps := #[.int .i64 g, .slice (some ⟨b, off, none⟩) n c, .slice (some ⟨ub, uo, none⟩) q uc, .pointer (some ⟨w.heap.size, 0, none⟩), undef, undef, .slice none 0 0, .pointer (some ⟨w4.heap.size, 0, none⟩), .pointer (some ⟨w4.heap.size + 1, 0, none⟩), cv b off n m x.1, .slice (some ⟨ub, uo, none⟩) q uc, .slice (some ⟨ub, uo + 1, none⟩) (q - 1) (uc - 1), .slice (some ⟨w.heap.size + 1, 0, none⟩) 1 1, .slice (some ⟨w.heap.size + 1 + 1, 0, none⟩) 2 2, .slice (some ⟨rb, ro, none⟩) q rc, .slice (some ⟨b, off, none⟩) n c, .int .i64 g, .int .i64 m, .func (.func 69) #[] #[.pointer (some ⟨w6.heap.size, 0, none⟩), .pointer (some ⟨w6.heap.size + 1, 0, none⟩)], cv b off n m x.1, undef, undef, undef, undef, undef, undef, undef, undef, undef, undef, undef, undef, undef, undef], defers := [] }) ?assign ?body ?done ?stop
    case assign =>
      intro l' x W K hK
      gi_wp2
      exact hK
    case body =>
      rintro l' pre ⟨x, hx⟩ W ⟨⟨r, hbx, hpg⟩, hon⟩ hlt
      obtain ⟨iB, hiB, hiB0, hiB1, hiB2⟩ := info_parts info_B
      have HIB := Lib.hid (And.intro hiB (And.intro hiB0 (And.intro hiB1 hiB2)))
      obtain ⟨RP, rp, C, rfl, hw, hd⟩ := pgs_form hpg
      have HLL : Hid ((linksB g v m l (idxs pre)).length = pre.length) := Lib.hid (by rw [linksB_len, idxs_len])
      rw [HLL.out] at hw hd hbx
      have HW := Lib.hid hw
      have HD := Lib.hid hd
      have HBX := Lib.hid hbx
      have HON := Lib.hid hon
      have HLT := Lib.hid hlt
      have HBL : Hid (w4.heap.size + 1 < w7.heap.size) := Lib.hid (by omega)
      have HLN : Hid (pre.length ≤ 100000) := Lib.hid (by have := HLT.out; rw [← HQ.out] at this; omega)
      have hpq : pre.length < q := by have := HLT.out; rw [← HQ.out] at this; exact this
      have HWO : Hid (Only (w.heap.size ≤ ·) w W) := Lib.hid (HO.out.trans (hon.mono fun k hk => by have := HO.out.size; rcases hk with hk | hk <;> omega))
      have hpq' : (pre.length : Int) < q := by omega
      obtain ⟨rb', ro', xn, ern, hrb, hxn, hcn⟩ := HR4.out.at_ (k := pre.length) hpq
      cases ern
      have hxn' : xn = nextOf l pre.length := by unfold nextOf; rw [List.getD_eq_getElem?_getD, hxn]; rfl
      rw [hxn'] at hcn
      have HFW : Hid (∀ W' : World, Only (W.heap.size ≤ ·) W W' → Only (fun k => k = w4.heap.size + 1 ∨ w7.heap.size ≤ k) W W') := Lib.hid fun W' hW' => hW'.mono fun k hk => .inr (Nat.le_trans HON.out.size hk)
      have HKC : Hid (∀ W' : World, Only (fun k => k = w4.heap.size + 1 ∨ w7.heap.size ≤ k) W W' → W'.cell? ⟨w.heap.size, 0, none⟩ = some (.int .i64 g) ∧ W'.cell? ⟨w4.heap.size, 0, none⟩ = some (.slice (some ⟨rb, ro, none⟩) q rc) ∧ W'.cell? ⟨rb, ro + pre.length, none⟩ = some (.int .i64 (nextOf l pre.length))) := Lib.hid fun W' hW' => by
        have hs := hon.size
        have kc : ∀ p : Addr, p.block < w7.heap.size → p.block ≠ w4.heap.size + 1 → W'.cell? p = w7.cell? p := fun p h1 h2 => (hW'.cell (by omega)).trans (hon.cell (by omega))
        refine ⟨(kc _ (by simp only; omega) (by simp only; omega)).trans (HGB.out.cell 0), (kc _ (by simp only; omega) (by simp only; omega)).trans (HB7.out.cell 0), (kc _ hrb (by have := HRB.out rb ro rfl; simp only; omega)).trans hcn⟩
      have hI1 := nextOf_I64 hI pre.length
      have HWR : Hid (∀ W', Only (W.heap.size ≤ ·) W W' → Calls Tryd.prog 64 #[.int .i64 g, .int .i64 (chk n m x : Nat), .int .i64 (nextOf l pre.length), cv b off n m x] W' (GaveW W' (linkB g v m l pre.length x))) := Lib.hid fun W' hW' => by
        have h1 := on_new HWO.out hW'
        have e1 : linkB g v m l pre.length x = wrapB 79 g (chk n m x : Nat) (nextOf l pre.length) (chunkB v m x) := by unfold linkB; rw [← HNV.out]
        rw [e1]
        exact Owrap_c W' g _ _ _ _ (HG.out.later h1) ((chunk_src HV.out HNV.out hx).later h1) (by rcases hg with rfl | rfl <;> (constructor <;> decide)) (chk_I64 (by omega)) hI1
      clear hw hd hbx hon hlt hpg hxn hcn hrb hxn' hI1 hpq
      unfold cv at HWR
      have c7 := Boxed.cell HBX.out
      gi_wp2
      unfold cv
      refine wpIn_round_list (B := [false, false, false, false, false, false, false, false, false, false, false, false, false, false]) (S := (fun W' => W'.cell? ⟨w.heap.size, 0, none⟩ = some (.int .i64 g) ∧ W'.cell? ⟨w4.heap.size, 0, none⟩ = some (.slice (some ⟨rb, ro, none⟩) q rc) ∧ W'.cell? ⟨rb, ro + pre.length, none⟩ = some (.int .i64 (nextOf l pre.length)))) (fun h => by obtain ⟨_, _, h⟩ := h; exact h) (by kernel_rfl) (by kernel_rfl) (by kernel_rfl) (by kernel_rfl) (HKC.out _ (HFW.out _ (Only.refl _ W).drew)) (fun hsel hHeld => ?_)
      refine oneA 1 21 hsel (h := ?_)
      simp only [Act.put, List.setIfInBounds_toArray, List.set_cons_zero, List.set_cons_succ]
      refine oneA 2 22 hsel (h := ?_)
      simp only [Act.put, List.setIfInBounds_toArray, List.set_cons_zero, List.set_cons_succ]
      refine oneA 3 23 hsel (h := ?_)
      simp only [Act.put, List.setIfInBounds_toArray, List.set_cons_zero, List.set_cons_succ]
      refine oneA 4 24 hsel (h := ?_)
      simp only [Act.put, List.setIfInBounds_toArray, List.set_cons_zero, List.set_cons_succ]
      refine oneA 9 29 hsel (h := ?_)
      simp only [Act.put, List.setIfInBounds_toArray, List.set_cons_zero, List.set_cons_succ]
      refine wpAnyL_ready (rs := [0, 5]) (by kernel_rfl) (by kernel_rfl) (by simp) ?_
      refine AllReadyL.cons (o := ?_) ?_ (fun K hK => ?_) (AllReadyL.cons (o := ?_) ?_ (fun K hK => ?_) AllReadyL.nil)
      case refine_2 => (simp only [List.getElem?_cons_zero]; rfl)
      case refine_5 => (simp only [List.getElem?_cons_succ, List.getElem?_cons_zero]; rfl)
      case refine_3 =>
        go_simp
        clear hHeld
        refine hK.out _ _ (HKC.out _ (by first | exact HFW.out _ (Only.refl _ W).drew | exact HFW.out _ HO8.out | exact HFW.out _ (HO8.out.alloc (fun _ h => h) _))) (fun hHeld => ?_)
        clear hK K
        try simp only [List.set_cons_zero]
        refine wpAnyL_ready (rs := [5]) (by kernel_rfl) (by kernel_rfl) (by simp) ?_
        refine AllReadyL.cons (o := ?_) ?_ (fun K hK => ?_) AllReadyL.nil
        case refine_2 => (simp only [List.getElem?_cons_succ, List.getElem?_cons_zero]; rfl)
        go_simp
        clear hHeld
        refine hK.out _ _ (HKC.out _ (by first | exact HFW.out _ (Only.refl _ W).drew | exact HFW.out _ HO8.out | exact HFW.out _ (HO8.out.alloc (fun _ h => h) _))) (fun hHeld => ?_)
        clear hK K
        try simp only [List.set_cons_zero, List.set_cons_succ]
        refine oneA 6 26 hsel (h := ?_)
        simp only [Act.put, List.setIfInBounds_toArray, List.set_cons_zero, List.set_cons_succ]
        refine oneA 7 27 hsel (h := ?_)
        simp only [Act.put, List.setIfInBounds_toArray, List.set_cons_zero, List.set_cons_succ]
        refine oneA 8 28 hsel (h := ?_)
        simp only [Act.put, List.setIfInBounds_toArray, List.set_cons_zero, List.set_cons_succ]
        refine wpAnyL_ready (rs := [10]) (by kernel_rfl) (by kernel_rfl) (by simp) ?_
        refine AllReadyL.cons (o := ?_) ?_ (fun K hK => ?_) AllReadyL.nil
        case refine_2 => (simp only [List.getElem?_cons_succ, List.getElem?_cons_zero]; rfl)
        go_simp
        (go_at_call 64; (with_reducible refine (HWR.out _ (Only.refl _ W).drew).mono ?_); rintro ee w8 ⟨pv, rfl, hnew, ho8⟩; (replace ho8 : Only (W.heap.size ≤ ·) W w8 := (Only.refl _ W).drew.trans ho8); have HN8 := Lib.hid hnew; (obtain ⟨PA, pc, rfl, _⟩ := hnew); have HO8 := Lib.hid ho8; have c8 := (ho8.cell (p := ⟨w4.heap.size + 1, 0, none⟩) (Nat.not_le.2 (Boxed.lt HBX.out))).trans HBX.out.cell; have l8 := Nat.lt_of_lt_of_le (Boxed.lt HBX.out) ho8.size; clear ho8)
        clear hHeld
        refine hK.out _ _ (HKC.out _ (HFW.out _ HO8.out)) (fun hHeld => ?_)
        clear hK K
        try simp only [List.set_cons_zero, List.set_cons_succ]
        refine wpAnyL_ready (rs := [11]) (by kernel_rfl) (by kernel_rfl) (by simp) ?_
        refine AllReadyL.cons (o := ?_) ?_ (fun K hK => ?_) AllReadyL.nil
        case refine_2 => (simp only [List.getElem?_cons_succ, List.getElem?_cons_zero]; rfl)
        go_simp
        clear hHeld
        refine hK.out _ _ (HKC.out _ (HFW.out _ (HO8.out.alloc (fun _ h => h) _))) (fun hHeld => ?_)
        clear hK K
        try simp only [List.set_cons_zero, List.set_cons_succ]
        refine wpAnyL_ready (rs := [12]) (by kernel_rfl) (by kernel_rfl) (by simp) ?_
        refine AllReadyL.cons (o := ?_) ?_ (fun K hK => ?_) AllReadyL.nil
        case refine_2 => (simp only [List.getElem?_cons_succ, List.getElem?_cons_zero]; rfl)
        rw [if_pos (by kernel_rfl)]
        refine wp_append_at (.tmp 20) (.tmp 31) 43 rfl w7.heap.size 27 iB zB 1 24 Tryd.underlying43 HIB.out.1 HIB.out.2.1 HIB.out.2.2.1 HIB.out.2.2.2 (by rfl) (by omega) (.slice RP pre.length rp) pre.length C rfl (own_later HW.out (HO8.out.alloc (fun _ h => h) _)) ⟨w8.heap.size, 0, none⟩ 1 1 [.slice PA _ pc] rfl rfl (fun j u hu => by rw [Addr.add_lit, (Blk.new w8 27 _).cell, Nat.zero_add]; exact hu) (by simp [Value.oneCell']) (by have := HLN.out; simp only [maxLen]; omega) (by have := HLN.out; omega) (by have := HON.out.size; have := HO8.out.size; simp; omega) ?_
        intro v' w9 ho' hg' hat'
        have HE9 := Lib.hid (links_end HON.out HBL.out HBX.out (by rw [HLL.out]; exact HW.out) HD.out HN8.out HO8.out hg' (by rw [HLL.out]; exact ho') hat')
        obtain ⟨g9, c9, rfl⟩ := ownsRow_succ ho'
        have hx9 := HE9.out.1.cell
        have hf9 := HE9.out.1.frozen
        clear ho' hg' hat'
        clear hHeld
        refine hK.out _ _ (HKC.out _ HE9.out.2.1) (fun hHeld => ?_)
        clear hK K
        try simp only [Act.put, List.setIfInBounds_toArray, List.set_cons_zero, List.set_cons_succ]
        refine wpAnyL_ready (rs := [13]) (by kernel_rfl) (by kernel_rfl) (by simp) ?_
        refine AllReadyL.cons (o := ?_) ?_ (fun K hK => ?_) AllReadyL.nil
        case refine_2 => (simp only [List.getElem?_cons_succ, List.getElem?_cons_zero]; rfl)
        go_simp
        clear hHeld
        refine hK.out _ _ (HKC.out _ HE9.out.2.2.2.1) (fun hHeld => ?_)
        clear hK K
        try simp only [List.set_cons_zero, List.set_cons_succ]
        refine wpAnyL_done (by kernel_rfl) (by kernel_rfl) ?_ _
        clear hsel hHeld
        exact ⟨HE9.out.2.2.1, HE9.out.2.2.2.1, by have h := HE9.out.2.2.2.2.1; have e1 : idxs (pre ++ [⟨x, hx⟩]) = idxs pre ++ [x] := idxs_snoc _ _; rw [e1, linksB_snoc, idxs_len]; exact h, HE9.out.2.2.2.2.2⟩
      case refine_6 =>
        go_simp
        clear hHeld
        refine hK.out _ _ (HKC.out _ (by first | exact HFW.out _ (Only.refl _ W).drew | exact HFW.out _ HO8.out | exact HFW.out _ (HO8.out.alloc (fun _ h => h) _))) (fun hHeld => ?_)
        clear hK K
        try simp only [List.set_cons_zero, List.set_cons_succ]
        refine oneA 6 26 hsel (h := ?_)
        simp only [Act.put, List.setIfInBounds_toArray, List.set_cons_zero, List.set_cons_succ]
        refine oneA 7 27 hsel (h := ?_)
        simp only [Act.put, List.setIfInBounds_toArray, List.set_cons_zero, List.set_cons_succ]
        refine oneA 8 28 hsel (h := ?_)
        simp only [Act.put, List.setIfInBounds_toArray, List.set_cons_zero, List.set_cons_succ]
        refine wpAnyL_ready (rs := [0, 10]) (by kernel_rfl) (by kernel_rfl) (by simp) ?_
        refine AllReadyL.cons (o := ?_) ?_ (fun K hK => ?_) (AllReadyL.cons (o := ?_) ?_ (fun K hK => ?_) AllReadyL.nil)
        case refine_2 => (simp only [List.getElem?_cons_zero]; rfl)
        case refine_5 => (simp only [List.getElem?_cons_succ, List.getElem?_cons_zero]; rfl)
        case refine_3 =>
          go_simp
          clear hHeld
          refine hK.out _ _ (HKC.out _ (by first | exact HFW.out _ (Only.refl _ W).drew | exact HFW.out _ HO8.out | exact HFW.out _ (HO8.out.alloc (fun _ h => h) _))) (fun hHeld => ?_)
          clear hK K
          try simp only [List.set_cons_zero]
          refine wpAnyL_ready (rs := [10]) (by kernel_rfl) (by kernel_rfl) (by simp) ?_
          refine AllReadyL.cons (o := ?_) ?_ (fun K hK => ?_) AllReadyL.nil
          case refine_2 => (simp only [List.getElem?_cons_succ, List.getElem?_cons_zero]; rfl)
          go_simp
          (go_at_call 64; (with_reducible refine (HWR.out _ (Only.refl _ W).drew).mono ?_); rintro ee w8 ⟨pv, rfl, hnew, ho8⟩; (replace ho8 : Only (W.heap.size ≤ ·) W w8 := (Only.refl _ W).drew.trans ho8); have HN8 := Lib.hid hnew; (obtain ⟨PA, pc, rfl, _⟩ := hnew); have HO8 := Lib.hid ho8; have c8 := (ho8.cell (p := ⟨w4.heap.size + 1, 0, none⟩) (Nat.not_le.2 (Boxed.lt HBX.out))).trans HBX.out.cell; have l8 := Nat.lt_of_lt_of_le (Boxed.lt HBX.out) ho8.size; clear ho8)
          clear hHeld
          refine hK.out _ _ (HKC.out _ (HFW.out _ HO8.out)) (fun hHeld => ?_)
          clear hK K
          try simp only [List.set_cons_zero, List.set_cons_succ]
          refine wpAnyL_ready (rs := [11]) (by kernel_rfl) (by kernel_rfl) (by simp) ?_
          refine AllReadyL.cons (o := ?_) ?_ (fun K hK => ?_) AllReadyL.nil
          case refine_2 => (simp only [List.getElem?_cons_succ, List.getElem?_cons_zero]; rfl)
          go_simp
          clear hHeld
          refine hK.out _ _ (HKC.out _ (HFW.out _ (HO8.out.alloc (fun _ h => h) _))) (fun hHeld => ?_)
          clear hK K
          try simp only [List.set_cons_zero, List.set_cons_succ]
          refine wpAnyL_ready (rs := [12]) (by kernel_rfl) (by kernel_rfl) (by simp) ?_
          refine AllReadyL.cons (o := ?_) ?_ (fun K hK => ?_) AllReadyL.nil
          case refine_2 => (simp only [List.getElem?_cons_succ, List.getElem?_cons_zero]; rfl)
          rw [if_pos (by kernel_rfl)]
          refine wp_append_at (.tmp 20) (.tmp 31) 43 rfl w7.heap.size 27 iB zB 1 24 Tryd.underlying43 HIB.out.1 HIB.out.2.1 HIB.out.2.2.1 HIB.out.2.2.2 (by rfl) (by omega) (.slice RP pre.length rp) pre.length C rfl (own_later HW.out (HO8.out.alloc (fun _ h => h) _)) ⟨w8.heap.size, 0, none⟩ 1 1 [.slice PA _ pc] rfl rfl (fun j u hu => by rw [Addr.add_lit, (Blk.new w8 27 _).cell, Nat.zero_add]; exact hu) (by simp [Value.oneCell']) (by have := HLN.out; simp only [maxLen]; omega) (by have := HLN.out; omega) (by have := HON.out.size; have := HO8.out.size; simp; omega) ?_
          intro v' w9 ho' hg' hat'
          have HE9 := Lib.hid (links_end HON.out HBL.out HBX.out (by rw [HLL.out]; exact HW.out) HD.out HN8.out HO8.out hg' (by rw [HLL.out]; exact ho') hat')
          obtain ⟨g9, c9, rfl⟩ := ownsRow_succ ho'
          have hx9 := HE9.out.1.cell
          have hf9 := HE9.out.1.frozen
          clear ho' hg' hat'
          clear hHeld
          refine hK.out _ _ (HKC.out _ HE9.out.2.1) (fun hHeld => ?_)
          clear hK K
          try simp only [Act.put, List.setIfInBounds_toArray, List.set_cons_zero, List.set_cons_succ]
          refine wpAnyL_ready (rs := [13]) (by kernel_rfl) (by kernel_rfl) (by simp) ?_
          refine AllReadyL.cons (o := ?_) ?_ (fun K hK => ?_) AllReadyL.nil
          case refine_2 => (simp only [List.getElem?_cons_succ, List.getElem?_cons_zero]; rfl)
          go_simp
          clear hHeld
          refine hK.out _ _ (HKC.out _ HE9.out.2.2.2.1) (fun hHeld => ?_)
          clear hK K
          try simp only [List.set_cons_zero, List.set_cons_succ]
          refine wpAnyL_done (by kernel_rfl) (by kernel_rfl) ?_ _
          clear hsel hHeld
          exact ⟨HE9.out.2.2.1, HE9.out.2.2.2.1, by have h := HE9.out.2.2.2.2.1; have e1 : idxs (pre ++ [⟨x, hx⟩]) = idxs pre ++ [x] := idxs_snoc _ _; rw [e1, linksB_snoc, idxs_len]; exact h, HE9.out.2.2.2.2.2⟩
        case refine_6 =>
          go_simp
          (go_at_call 64; (with_reducible refine (HWR.out _ (Only.refl _ W).drew).mono ?_); rintro ee w8 ⟨pv, rfl, hnew, ho8⟩; (replace ho8 : Only (W.heap.size ≤ ·) W w8 := (Only.refl _ W).drew.trans ho8); have HN8 := Lib.hid hnew; (obtain ⟨PA, pc, rfl, _⟩ := hnew); have HO8 := Lib.hid ho8; have c8 := (ho8.cell (p := ⟨w4.heap.size + 1, 0, none⟩) (Nat.not_le.2 (Boxed.lt HBX.out))).trans HBX.out.cell; have l8 := Nat.lt_of_lt_of_le (Boxed.lt HBX.out) ho8.size; clear ho8)
          clear hHeld
          refine hK.out _ _ (HKC.out _ (HFW.out _ HO8.out)) (fun hHeld => ?_)
          clear hK K
          try simp only [List.set_cons_zero, List.set_cons_succ]
          refine wpAnyL_ready (rs := [0, 11]) (by kernel_rfl) (by kernel_rfl) (by simp) ?_
          refine AllReadyL.cons (o := ?_) ?_ (fun K hK => ?_) (AllReadyL.cons (o := ?_) ?_ (fun K hK => ?_) AllReadyL.nil)
          case refine_2 => (simp only [List.getElem?_cons_zero]; rfl)
          case refine_5 => (simp only [List.getElem?_cons_succ, List.getElem?_cons_zero]; rfl)
          case refine_3 =>
            go_simp
            clear hHeld
            refine hK.out _ _ (HKC.out _ (by first | exact HFW.out _ (Only.refl _ W).drew | exact HFW.out _ HO8.out | exact HFW.out _ (HO8.out.alloc (fun _ h => h) _))) (fun hHeld => ?_)
            clear hK K
            try simp only [List.set_cons_zero]
            refine wpAnyL_ready (rs := [11]) (by kernel_rfl) (by kernel_rfl) (by simp) ?_
            refine AllReadyL.cons (o := ?_) ?_ (fun K hK => ?_) AllReadyL.nil
            case refine_2 => (simp only [List.getElem?_cons_succ, List.getElem?_cons_zero]; rfl)
            go_simp
            clear hHeld
            refine hK.out _ _ (HKC.out _ (HFW.out _ (HO8.out.alloc (fun _ h => h) _))) (fun hHeld => ?_)
            clear hK K
            try simp only [List.set_cons_zero, List.set_cons_succ]
            refine wpAnyL_ready (rs := [12]) (by kernel_rfl) (by kernel_rfl) (by simp) ?_
            refine AllReadyL.cons (o := ?_) ?_ (fun K hK => ?_) AllReadyL.nil
            case refine_2 => (simp only [List.getElem?_cons_succ, List.getElem?_cons_zero]; rfl)
            rw [if_pos (by kernel_rfl)]
            refine wp_append_at (.tmp 20) (.tmp 31) 43 rfl w7.heap.size 27 iB zB 1 24 Tryd.underlying43 HIB.out.1 HIB.out.2.1 HIB.out.2.2.1 HIB.out.2.2.2 (by rfl) (by omega) (.slice RP pre.length rp) pre.length C rfl (own_later HW.out (HO8.out.alloc (fun _ h => h) _)) ⟨w8.heap.size, 0, none⟩ 1 1 [.slice PA _ pc] rfl rfl (fun j u hu => by rw [Addr.add_lit, (Blk.new w8 27 _).cell, Nat.zero_add]; exact hu) (by simp [Value.oneCell']) (by have := HLN.out; simp only [maxLen]; omega) (by have := HLN.out; omega) (by have := HON.out.size; have := HO8.out.size; simp; omega) ?_
            intro v' w9 ho' hg' hat'
            have HE9 := Lib.hid (links_end HON.out HBL.out HBX.out (by rw [HLL.out]; exact HW.out) HD.out HN8.out HO8.out hg' (by rw [HLL.out]; exact ho') hat')
            obtain ⟨g9, c9, rfl⟩ := ownsRow_succ ho'
            have hx9 := HE9.out.1.cell
            have hf9 := HE9.out.1.frozen
            clear ho' hg' hat'
            clear hHeld
            refine hK.out _ _ (HKC.out _ HE9.out.2.1) (fun hHeld => ?_)
            clear hK K
            try simp only [Act.put, List.setIfInBounds_toArray, List.set_cons_zero, List.set_cons_succ]
            refine wpAnyL_ready (rs := [13]) (by kernel_rfl) (by kernel_rfl) (by simp) ?_
            refine AllReadyL.cons (o := ?_) ?_ (fun K hK => ?_) AllReadyL.nil
            case refine_2 => (simp only [List.getElem?_cons_succ, List.getElem?_cons_zero]; rfl)
            go_simp
            clear hHeld
            refine hK.out _ _ (HKC.out _ HE9.out.2.2.2.1) (fun hHeld => ?_)
            clear hK K
            try simp only [List.set_cons_zero, List.set_cons_succ]
            refine wpAnyL_done (by kernel_rfl) (by kernel_rfl) ?_ _
            clear hsel hHeld
            exact ⟨HE9.out.2.2.1, HE9.out.2.2.2.1, by have h := HE9.out.2.2.2.2.1; have e1 : idxs (pre ++ [⟨x, hx⟩]) = idxs pre ++ [x] := idxs_snoc _ _; rw [e1, linksB_snoc, idxs_len]; exact h, HE9.out.2.2.2.2.2⟩
          case refine_6 =>
            go_simp
            clear hHeld
            refine hK.out _ _ (HKC.out _ (HFW.out _ (HO8.out.alloc (fun _ h => h) _))) (fun hHeld => ?_)
            clear hK K
            try simp only [List.set_cons_zero, List.set_cons_succ]
            refine wpAnyL_ready (rs := [0]) (by kernel_rfl) (by kernel_rfl) (by simp) ?_
            refine AllReadyL.cons (o := ?_) ?_ (fun K hK => ?_) AllReadyL.nil
            case refine_2 => (simp only [List.getElem?_cons_zero]; rfl)
            go_simp
            clear hHeld
            refine hK.out _ _ (HKC.out _ (by first | exact HFW.out _ (Only.refl _ W).drew | exact HFW.out _ HO8.out | exact HFW.out _ (HO8.out.alloc (fun _ h => h) _))) (fun hHeld => ?_)
            clear hK K
            try simp only [List.set_cons_zero]
            refine wpAnyL_ready (rs := [12]) (by kernel_rfl) (by kernel_rfl) (by simp) ?_
            refine AllReadyL.cons (o := ?_) ?_ (fun K hK => ?_) AllReadyL.nil
            case refine_2 => (simp only [List.getElem?_cons_succ, List.getElem?_cons_zero]; rfl)
            rw [if_pos (by kernel_rfl)]
            refine wp_append_at (.tmp 20) (.tmp 31) 43 rfl w7.heap.size 27 iB zB 1 24 Tryd.underlying43 HIB.out.1 HIB.out.2.1 HIB.out.2.2.1 HIB.out.2.2.2 (by rfl) (by omega) (.slice RP pre.length rp) pre.length C rfl (own_later HW.out (HO8.out.alloc (fun _ h => h) _)) ⟨w8.heap.size, 0, none⟩ 1 1 [.slice PA _ pc] rfl rfl (fun j u hu => by rw [Addr.add_lit, (Blk.new w8 27 _).cell, Nat.zero_add]; exact hu) (by simp [Value.oneCell']) (by have := HLN.out; simp only [maxLen]; omega) (by have := HLN.out; omega) (by have := HON.out.size; have := HO8.out.size; simp; omega) ?_
            intro v' w9 ho' hg' hat'
            have HE9 := Lib.hid (links_end HON.out HBL.out HBX.out (by rw [HLL.out]; exact HW.out) HD.out HN8.out HO8.out hg' (by rw [HLL.out]; exact ho') hat')
            obtain ⟨g9, c9, rfl⟩ := ownsRow_succ ho'
            have hx9 := HE9.out.1.cell
            have hf9 := HE9.out.1.frozen
            clear ho' hg' hat'
            clear hHeld
            refine hK.out _ _ (HKC.out _ HE9.out.2.1) (fun hHeld => ?_)
            clear hK K
            try simp only [Act.put, List.setIfInBounds_toArray, List.set_cons_zero, List.set_cons_succ]
            refine wpAnyL_ready (rs := [13]) (by kernel_rfl) (by kernel_rfl) (by simp) ?_
            refine AllReadyL.cons (o := ?_) ?_ (fun K hK => ?_) AllReadyL.nil
            case refine_2 => (simp only [List.getElem?_cons_succ, List.getElem?_cons_zero]; rfl)
            go_simp
            clear hHeld
            refine hK.out _ _ (HKC.out _ HE9.out.2.2.2.1) (fun hHeld => ?_)
            clear hK K
            try simp only [List.set_cons_zero, List.set_cons_succ]
            refine wpAnyL_done (by kernel_rfl) (by kernel_rfl) ?_ _
            clear hsel hHeld
            exact ⟨HE9.out.2.2.1, HE9.out.2.2.2.1, by have h := HE9.out.2.2.2.2.1; have e1 : idxs (pre ++ [⟨x, hx⟩]) = idxs pre ++ [x] := idxs_snoc _ _; rw [e1, linksB_snoc, idxs_len]; exact h, HE9.out.2.2.2.2.2⟩
    case done =>
      rintro D ys W hD hys ⟨⟨r, hbx, hpg⟩, hon⟩ hK
      have hc := Boxed.cell hbx
      have HPG := Lib.hid hpg
      have HON := Lib.hid hon
      have HYS := Lib.hid hys
      obtain ⟨RP, rp, C, rfl, _, _⟩ := pgs_form hpg
      clear hpg hon hys hbx
      obtain ⟨N, hN⟩ : ∃ N, N = (linksB g v m l (idxs ys)).length := ⟨_, rfl⟩
      rw [← hN] at HPG hc
      rw [HYS.out, ← HQ.out] at HPG
      clear hN
      gi_wp2
      refine ⟨by simp, .inl ⟨_, _, rfl, run_takeDeferred hK, ?_⟩⟩
      refine ⟨_, results_tmp rfl _ _ _, _, rfl, ?_, ?_⟩
      · have h1 := HPG.out.turn (grownBy_putObj' W D (.deferred none)) (fun r e => by cases e; exact ⟨_, hK, rfl⟩)
        exact h1.mono HO.out.size
      · exact only_putObj (HO.out.trans (HON.out.mono fun k hk => by have := HO.out.size; rcases hk with hk | hk <;> omega)) (Nat.le_trans HO.out.size hD) _
    case stop =>
      rintro D cc pre W _ _ h _
      exact h.elim
end Go.Proofs.YtbgnfocfnjlabaaDoor
