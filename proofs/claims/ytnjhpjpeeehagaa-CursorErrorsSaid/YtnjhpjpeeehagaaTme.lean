/-
  The document's Made: the leaves.
-/
import Derived.Test.YtnjhpjpeeehagaaTmi
set_option linter.unusedVariables false
namespace Go.Proofs.Ytnjhpjpeeehagaa
open Go.RowKit

theorem chunk_den {w : World} {its : List It} {a q kk : Nat} {C cs : List Value} {y : It} (h : Den (itE.At w) ((its.drop a).take q) C) (hy : its[kk]? = some y) (hc : itE.At w y cs) (hk : kk = a + q) : Den (itE.At w) ((its.drop a).take (q + 1)) (C ++ cs) := by
  rw [List.take_add_one, List.getElem?_drop, ← hk, hy]
  exact Den.append h (Den.single hc)
theorem head_den {w : World} {l : List It} {C : List Value} (h : Den (itE.At w) l C) (hl : 0 < l.length) : ∃ (k : Bytes) (P : Option Addr) (p : Nat), headKey l = k ∧ C[0]? = some (.slice P k.length p) ∧ Src w (.slice P k.length p) k := by
  cases l with
  | nil => simp at hl
  | cons y l =>
    obtain ⟨cs, D, rfl, ⟨P, p, Q, q, rfl, h1, _⟩, _⟩ := h
    exact ⟨y.1, P, p, rfl, rfl, h1⟩
theorem len_take {its : List It} {a q kk ni : Nat} (hk : kk = a + (q + 1)) (hn : ni = its.length) (hl : a < ni) : 0 < ((its.drop a).take (q + 1)).length := by
  rw [List.length_take, List.length_drop]
  omega
theorem own_cell0 {w : World} {B z n g p : Nat} {t : TypeId} {C : List Value} {u : Value} (h : w.ownsRow B t z (.slice (some ⟨g, 0, none⟩) n p) n C) (hu : C[0]? = some u) : w.cell? ⟨g, 0, none⟩ = some u := by
  obtain ⟨A, c, e, hr, _⟩ := raw_of_own h
  cases e
  obtain ⟨b, off, e, _, hc⟩ := hr (List.length_pos_iff.2 (fun e => by rw [e] at hu; simp at hu))
  cases e
  exact hc 0 u hu
theorem grow_only {w w' : World} {o : Obj} {row : Option Nat} (h : (w.alloc o).grownBy w' row) : Only (fun k => row = some k ∨ w.heap.size ≤ k) w w' := ((Only.refl _ w).alloc (fun _ h => .inr h) o).grown h (fun _ h => .inr h) (fun _ e => .inl e)
theorem hat_new {w : World} {o : Obj} {x y : Option Nat} (h : x = y ∨ x = some (w.alloc o).heap.size) : x = y ∨ ∃ g, x = some g ∧ w.heap.size ≤ g := h.imp (fun e => e) fun e => ⟨_, e, by simp⟩
theorem chunk_len {its : List It} {a q kk ni : Nat} (hk : kk = a + (q + 1)) (hn : ni = its.length) (hl : kk ≤ ni) : q + 1 = ((its.drop a).take (q + 1)).length := by
  rw [List.length_take, List.length_drop]
  omega
theorem leafs_len (many : Nat) (its : List It) (j : Nat) : (leafsP many its j).length = j := by simp [leafsP]
theorem leafKids_len (many : Nat) (its : List It) (j : Nat) : (leafKidsP many its j).length = j := by simp [leafKidsP]
/-- A leaf more. -/
theorem leaf_round {w w0 w3 w4 w5 : World} {LA KA R2 R3 : Option Addr} {vI : Value} {j lc kc t2 t3 many q p yk : Nat} {its : List It} {CL CK C : List Value} {P : Option Addr} {yy : Bytes}
    (hM : MdI w w0 (.slice LA j lc) (.slice KA j kc) (leafsP many its j) (leafKidsP many its j) CL CK) (hO3 : Only (w0.heap.size ≤ ·) w0 w3)
    (hL4 : w4.ownsRow w.heap.size 65 4 (.slice R2 (j + 1) t2) (j + 1) (CL ++ [.int .i64 (2 + (j : Int)), .bool true, vI, .slice none 0 0]))
    (hG4 : Only (fun k => (Value.slice LA j lc).ownBlock = some k ∨ w3.heap.size ≤ k) w3 w4)
    (hA4 : (Value.slice R2 (j + 1) t2).ownBlock = (Value.slice LA j lc).ownBlock ∨ ∃ k, (Value.slice R2 (j + 1) t2).ownBlock = some k ∧ w3.heap.size ≤ k)
    (hK4 : w4.ownsRow w.heap.size 87 2 (.slice KA j kc) (leafKidsP many its j).length CK) (hR4 : w4.ownsRow w0.heap.size 44 4 vI q C)
    (hK5 : w5.ownsRow w.heap.size 87 2 (.slice R3 (j + 1) t3) (j + 1) (CK ++ [.slice P yk p, .int .i64 (2 + (j : Int))]))
    (hG5 : Only (fun k => (Value.slice KA j kc).ownBlock = some k ∨ w4.heap.size ≤ k) w4 w5)
    (hA5 : (Value.slice R3 (j + 1) t3).ownBlock = (Value.slice KA j kc).ownBlock ∨ ∃ k, (Value.slice R3 (j + 1) t3).ownBlock = some k ∧ w4.heap.size ≤ k)
    (hd : Den (itE.At w) (chunkP many its j) C) (hq : q = (chunkP many its j).length) (hy : headKey (chunkP many its j) = yy) (hyk : yk = yy.length) (hs : Src w (.slice P yk p) yy) :
    MdI w w5 (.slice R2 (j + 1) t2) (.slice R3 (j + 1) t3) (leafsP many its (j + 1)) (leafKidsP many its (j + 1)) (CL ++ [.int .i64 (2 + (j : Int)), .bool true, vI, .slice none 0 0]) (CK ++ [.slice P yk p, .int .i64 (2 + (j : Int))]) := by
  have h34 := hG4.size
  have h03 := hO3.size
  have hL5 := own_on hL4 hG5 (fun k hk e => e.elim (fun e => own_apart hL4 hK4 (by decide) hk e) (fun e => by have := (World.ownsRow.lt hL4 k hk).2; omega))
  have hR5 := own_on hR4 hG5 (fun k hk e => e.elim (fun e => own_apart hR4 hK4 (by decide) hk e) (fun e => by have := (World.ownsRow.lt hR4 k hk).2; omega))
  have hO : Only (fun k => Fq (.slice LA j lc) (.slice KA j kc) k ∨ w0.heap.size ≤ k) w0 w5 := (hO3.mono fun k hk => .inr hk).trans ((hG4.mono fun k hk => hk.elim (fun h => .inl (.inl h)) fun h => .inr (Nat.le_trans h03 h)).trans (hG5.mono fun k hk => hk.elim (fun h => .inl (.inr h)) fun h => .inr (Nat.le_trans h03 (Nat.le_trans h34 h))))
  have hF : ∀ k, Fq (.slice R2 (j + 1) t2) (.slice R3 (j + 1) t3) k → w.heap.size ≤ k ∧ vI.ownBlock ≠ some k := fun k hk => by
    rcases hk with hk | hk
    · exact ⟨(World.ownsRow.lt hL5 k hk).1, own_apart hL5 hR5 (by decide) hk⟩
    · exact ⟨(World.ownsRow.lt hK5 k hk).1, own_apart hK5 hR5 (by decide) hk⟩
  have hon : Only (w.heap.size ≤ ·) w w5 := hM.on.trans (hO.mono fun k hk => by
    rcases hk with (hk | hk) | hk
    · exact (World.ownsRow.lt hM.rl k hk).1
    · exact (World.ownsRow.lt hM.rk k hk).1
    · exact Nat.le_trans hM.on.size hk)
  rw [leafs_succ, leafKids_succ]
  subst hyk
  rw [hy]
  exact hM.round hO (own_cast hL5 (by rw [leafs_len])) (own_cast hK5 (by rw [leafKids_len])) (hA4.imp (fun h => h) fun ⟨k, h, hk⟩ => ⟨k, h, Nat.le_trans h03 hk⟩) (hA5.imp (fun h => h) fun ⟨k, h, hk⟩ => ⟨k, h, Nat.le_trans h03 (Nat.le_trans h34 hk)⟩) (leaf_stab hon hR5 hq hd hF) (kid_stab hon hs fun k hk => (hF k hk).1)
/-- The old kids' row, while a level is laid. -/
structure KidsIn (w wS wr : World) (vl vab vk : Value) (ks : List Kd) (CK : List Value) : Prop where
  rk : wr.ownsRow w.heap.size 87 2 vk ks.length CK
  dk : Den (fun y cs => Stab (Fq vl vab) wr (fun W => kdE.At W y cs)) ks CK
  ne : ∀ g, vk.ownBlock = some g → vab.ownBlock ≠ some g
theorem fq_nil {vl vk : Value} {k : Nat} (h : Fq vl (.slice none 0 0) k) : Fq vl vk k := h.elim .inl fun h => nomatch h
theorem level_start {w wr : World} {vl vk : Value} {ls : List Nm} {ks : List Kd} {CL CK : List Value} (h : MdI w wr vl vk ls ks CL CK) : MdI w wr vl (.slice none 0 0) ls [] CL [] :=
  ⟨h.on, h.rl, h.dl.mono fun _ _ hx => hx.mono fun _ hk => .inl (fq_nil hk), World.ownsRow_nil _ _ _ _, rfl⟩
theorem kids_start {w wr : World} {vl vk : Value} {ls : List Nm} {ks : List Kd} {CL CK : List Value} (h : MdI w wr vl vk ls ks CL CK) : KidsIn w wr wr vl (.slice none 0 0) vk ks CK :=
  ⟨h.rk, h.dk.mono fun _ _ hx => hx.mono fun _ hk => .inl (fq_nil hk), fun g hg e => nomatch e⟩
theorem own_zero (w : World) : (w.alloc (.cells #[] 87)).ownsRow w.heap.size 87 2 (.slice (some ⟨w.heap.size, 0, none⟩) 0 0) 0 [] :=
  ⟨rfl, .inr ⟨w.heap.size, 0, #[], rfl, Nat.le_refl _, heap_alloc_new w _, Nat.le_refl _, by decide, rfl, rfl⟩⟩
theorem own_cells {w : World} {B z n g p : Nat} {t : TypeId} {C : List Value} (h : w.ownsRow B t z (.slice (some ⟨g, 0, none⟩) n p) n C) : ∀ i u, C[i]? = some u → w.cell? ⟨g, i, none⟩ = some u := fun i u hu => by
  obtain ⟨A, c, e, hr, _⟩ := raw_of_own h
  cases e
  obtain ⟨b, off, e, _, hc⟩ := hr (List.length_pos_iff.2 (fun e => by rw [e] at hu; simp at hu))
  cases e
  have := hc i u hu
  rwa [Nat.zero_add] at this
theorem den_kids {F : Nat → Prop} {w : World} : ∀ {l : List Kd} {C : List Value}, Den (fun y cs => Stab F w (fun W => kdE.At W y cs)) l C → ∀ u ∈ C, u.oneCell' = true
  | [], C, h, u, hu => by
    have : C = [] := h
    subst this
    cases hu
  | x :: l, C, h, u, hu => by
    obtain ⟨cs, D, rfl, h1, h2⟩ := h
    rcases List.mem_append.1 hu with h3 | h3
    · exact kdE.one h1.now u h3
    · exact den_kids h2 u h3
theorem grp_len {CK : List Value} {n a T : Nat} (h : CK.length = n * 2) (h1 : T ≤ n) (h2 : a ≤ T) : ((CK.drop (a * 2)).take ((T - a) * 2)).length = (T - a) * 2 := by
  rw [List.length_take, List.length_drop, h]
  omega
theorem grp_cell {w : World} {kg a m j : Nat} {CK : List Value} {u : Value} (h : ∀ i u, CK[i]? = some u → w.cell? ⟨kg, i, none⟩ = some u) (hu : ((CK.drop (a * 2)).take m)[j]? = some u) : w.cell? ⟨kg, a * 2 + j, none⟩ = some u := by
  rw [List.getElem?_take] at hu
  split at hu
  · rw [List.getElem?_drop] at hu
    exact h _ u hu
  · cases hu
/-- A branch whose kids' row is the call's own, and no row that grows. -/
theorem branch_stab {W : World} {F : Nat → Prop} {v : Value} {m B : Nat} {C : List Value} {l : List Kd} {r : Int} (hr : W.ownsRow B 87 2 v m C) (hm : m = l.length) (hd : Den (fun y cs => Stab F W (fun W' => kdE.At W' y cs)) l C) (hF : ∀ j, F j → v.ownBlock ≠ some j) :
    Stab F W (fun W' => nmE.At W' (r, ⟨false, [], l⟩) [.int .i64 r, .bool false, .slice none 0 0, v]) := fun W' hW =>
  ⟨false, .slice none 0 0, v, rfl, rfl, Rw.nil_ _, rw_of_own (own_on hr hW fun j hj h => h.elim (fun h => hF j h hj) fun h => by have := (World.ownsRow.lt hr j hj).2; omega) hm (hd.mono fun _ _ hx => hx W' hW)⟩
/-- A branch more. -/
theorem group_round {w wS wr w5 w6 w7 w8 : World} {LB KB R3 R8 P : Option Addr} {vk : Value} {nm lb na kb t3 t8 g m t2 p yk : Nat} {ls : List Nm} {ks ab r : List Kd} {CK CM CB C4 D : List Value} {key : Bytes} {ref nx : Int}
    (hM : MdI w wr (.slice LB nm lb) (.slice KB na kb) ls ab CM CB) (hK : KidsIn w wS wr (.slice LB nm lb) (.slice KB na kb) vk ks CK) (hO5 : Only (wr.heap.size ≤ ·) wr w5)
    (hR : w5.ownsRow wr.heap.size 87 2 (.slice (some ⟨g, 0, none⟩) m t2) m C4)
    (hG6 : Only (fun k => (Value.slice KB na kb).ownBlock = some k ∨ w5.heap.size ≤ k) w5 w6)
    (hA6 : (Value.slice R3 (na + 1) t3).ownBlock = (Value.slice KB na kb).ownBlock ∨ ∃ k, (Value.slice R3 (na + 1) t3).ownBlock = some k ∧ w5.heap.size ≤ k)
    (hS7 : Only (· = g) w6 w7) (hR7 : w7.ownsRow wr.heap.size 87 2 (.slice (some ⟨g, 0, none⟩) m t2) m (C4.set 0 (.slice none 0 0)))
    (hK7 : w7.ownsRow w.heap.size 87 2 (.slice R3 (na + 1) t3) (na + 1) (CB ++ [.slice P yk p, .int .i64 nx]))
    (hG8 : Only (fun k => (Value.slice LB nm lb).ownBlock = some k ∨ w7.heap.size ≤ k) w7 w8)
    (hA8 : (Value.slice R8 (nm + 1) t8).ownBlock = (Value.slice LB nm lb).ownBlock ∨ ∃ k, (Value.slice R8 (nm + 1) t8).ownBlock = some k ∧ w7.heap.size ≤ k)
    (hL8 : w8.ownsRow w.heap.size 65 4 (.slice R8 (nm + 1) t8) (nm + 1) (CM ++ [.int .i64 nx, .bool false, .slice none 0 0, .slice (some ⟨g, 0, none⟩) m t2]))
    (hn : nm = ls.length) (hna : na = ab.length) (hC : C4 = [.slice P yk p, .int .i64 ref] ++ D) (hy : yk = key.length) (hm : m = ((key, ref) :: r).length)
    (hst : Stab (Fq (.slice LB nm lb) (.slice KB na kb)) wr (fun W => Src W (.slice P yk p) key))
    (hd : Den (fun y cs => Stab (Fq (.slice LB nm lb) (.slice KB na kb)) wr (fun W => kdE.At W y cs)) r D) :
    MdI w w8 (.slice R8 (nm + 1) t8) (.slice R3 (na + 1) t3) (ls ++ [(nx, ⟨false, [], ([], ref) :: r⟩)]) (ab ++ [(key, nx)]) (CM ++ [.int .i64 nx, .bool false, .slice none 0 0, .slice (some ⟨g, 0, none⟩) m t2]) (CB ++ [.slice P yk p, .int .i64 nx]) ∧ KidsIn w wS w8 (.slice R8 (nm + 1) t8) (.slice R3 (na + 1) t3) vk ks CK := by
  have h5 := hO5.size
  have h6 := hG6.size
  have h7 := hS7.size
  obtain ⟨hg1, hg2⟩ := World.ownsRow.lt hR g rfl
  have hlb := World.ownsRow.lt hM.rl
  have hkb := World.ownsRow.lt hM.rk
  have ho7 : Only (fun k => (Value.slice KB na kb).ownBlock = some k ∨ wr.heap.size ≤ k) wr w7 :=
    ((hO5.mono fun k hk => .inr hk).trans (hG6.mono fun k hk => hk.imp (fun h => h) fun h => by omega)).trans (hS7.mono fun k hk => .inr (by rw [show k = g from hk]; exact hg1))
  have ho : Only (fun j => Fq (.slice LB nm lb) (.slice KB na kb) j ∨ wr.heap.size ≤ j) wr w8 :=
    (ho7.mono fun k hk => hk.imp .inr fun h => h).trans (hG8.mono fun k hk => hk.imp .inl fun h => by omega)
  have a6 : (Value.slice R3 (na + 1) t3).ownBlock = (Value.slice KB na kb).ownBlock ∨ ∃ k, (Value.slice R3 (na + 1) t3).ownBlock = some k ∧ wr.heap.size ≤ k := hA6.imp (fun h => h) fun ⟨k, h, hk⟩ => ⟨k, h, by omega⟩
  have a8 : (Value.slice R8 (nm + 1) t8).ownBlock = (Value.slice LB nm lb).ownBlock ∨ ∃ k, (Value.slice R8 (nm + 1) t8).ownBlock = some k ∧ wr.heap.size ≤ k := hA8.imp (fun h => h) fun ⟨k, h, hk⟩ => ⟨k, h, by omega⟩
  have hF : ∀ j, Fq (.slice R8 (nm + 1) t8) (.slice R3 (na + 1) t3) j → Fq (.slice LB nm lb) (.slice KB na kb) j ∨ wr.heap.size ≤ j := by
    rintro j (hj | hj)
    · rcases a8 with e | ⟨k, e, hk⟩
      · exact .inl (.inl (e ▸ hj))
      · rw [e] at hj
        cases hj
        exact .inr hk
    · rcases a6 with e | ⟨k, e, hk⟩
      · exact .inl (.inr (e ▸ hj))
      · rw [e] at hj
        cases hj
        exact .inr hk
  have hg : ∀ j, Fq (.slice R8 (nm + 1) t8) (.slice R3 (na + 1) t3) j → j ≠ g := by
    rintro j (hj | hj)
    · rcases hA8 with e | ⟨k, e, hk⟩
      · have := (hlb j (e ▸ hj)).2
        omega
      · rw [e] at hj
        cases hj
        omega
    · rcases hA6 with e | ⟨k, e, hk⟩
      · have := (hkb j (e ▸ hj)).2
        omega
      · rw [e] at hj
        cases hj
        omega
  have hR8 : w8.ownsRow wr.heap.size 87 2 (.slice (some ⟨g, 0, none⟩) m t2) m ([.slice none 0 0, .int .i64 ref] ++ D) := by
    have := own_on hR7 hG8 fun k hk e => by
      have hk' : g = k := Option.some.inj hk
      rcases e with e | e
      · have := (hlb _ e).2
        omega
      · omega
    rw [hC] at this
    exact this
  have hK8 : w8.ownsRow w.heap.size 87 2 (.slice R3 (na + 1) t3) (na + 1) (CB ++ [.slice P yk p, .int .i64 nx]) := own_on hK7 hG8 fun k hk e => e.elim (fun e => by
    have h8 := hL8
    rcases a6 with q | ⟨c, q, hc⟩
    · exact own_apart hM.rl hM.rk (by decide) e (q ▸ hk)
    · rw [q] at hk
      cases hk
      have := (hlb _ e).2
      omega) fun e => by have := (World.ownsRow.lt hK7 k hk).2; omega
  subst hy
  refine ⟨hM.round ho (by rw [← hn]; exact hL8) (by rw [← hna]; exact hK8) a8 a6 (branch_stab hR8 (by rw [hm]; rfl) ⟨[.slice none 0 0, .int .i64 ref], D, rfl, fun W _ => ⟨none, 0, rfl, Src.nil_ W⟩, hd.mono fun _ _ hx => hx.step ho hF⟩ fun j hj e => hg j hj (Option.some.inj e).symm) ((hst.step ho hF).imp fun W hW => ⟨P, p, rfl, hW⟩), ?_⟩
  have hk0 := World.ownsRow.lt hK.rk
  refine ⟨own_on hK.rk ho fun k hk e => ?_, hK.dk.mono fun _ _ hx => hx.step ho hF, fun k hk e => ?_⟩
  · rcases e with (e | e) | e
    · exact own_apart hM.rl hK.rk (by decide) e hk
    · exact hK.ne k hk e
    · have := (hk0 k hk).2
      omega
  · rcases a6 with q | ⟨c, q, hc⟩
    · exact hK.ne k hk (q ▸ e)
    · rw [q] at e
      cases e
      have := (hk0 _ hk).2
      omega
/-- What Made tells. -/
def MadeSays (w : World) (its : List It) (many fan : Nat) (e : Ending) (w' : World) : Prop := (∃ (A : Option Addr) (n c : Nat) (root : Int) (ls : List Nm), e = .returned (.tuple #[.slice A n c, .int .i64 root]) ∧ IsMade its many fan ls root ∧ ls.length ≤ 3000 ∧ Nms w' (.slice A n c) ls) ∧ Only (w.heap.size ≤ ·) w w'
def zN : Value := .agg #[.int .i64 0, .bool false, .slice none 0 0, .slice none 0 0]
theorem info_Nm : (Try.prog.info? 65).map (fun i => (i.zero, i.size, i.bytes)) = some (some zN, 4, 64) := by kernel_rfl
set_option maxRecDepth 100000 in
set_option maxHeartbeats 25600000 in
theorem rMade_c (w : World) (IA : Option Addr) (ni ic many fan : Nat) (its : List It) (h : Its w (.slice IA ni ic) its) (hn : ni ≤ 1000) (hm : 1 ≤ many ∧ many ≤ 1000) (hf : 2 ≤ fan ∧ fan ≤ 1000) :
    Calls Try.prog 24 #[.slice IA ni ic, .int .i64 (many : Int), .int .i64 (fan : Int)] w (MadeSays w its many fan) := by
  obtain ⟨i1, hi0, hz0, hz1, hz2⟩ := info_parts info_RI
  have HI1 := Lib.hid (And.intro hi0 (And.intro hz0 (And.intro hz1 hz2)))
  clear hi0 hz0 hz1 hz2
  obtain ⟨i2, hi0, hz0, hz1, hz2⟩ := info_parts info_Nm
  have HI2 := Lib.hid (And.intro hi0 (And.intro hz0 (And.intro hz1 hz2)))
  clear hi0 hz0 hz1 hz2
  obtain ⟨i3, hi0, hz0, hz1, hz2⟩ := info_parts info_RK
  have HI3 := Lib.hid (And.intro hi0 (And.intro hz0 (And.intro hz1 hz2)))
  clear hi0 hz0 hz1 hz2
  have HI := Lib.hid h
  have HNI := Lib.hid h.len
  clear h
  go_enter Try.func24, Try.ntmps24
  go_wp2_with (fail)
  go_loopg [8, 9, 10, 11] (ni + 1) (fun gk vl vk nx av wr => ∃ (j a : Nat) (LA : Option Addr) (lc : Nat) (KA : Option Addr) (kc : Nat) (CL CK : List Value), gk = ni + 1 - j ∧ j ≤ ni + 1 ∧ a ≤ 2000 ∧ vl = .slice LA j lc ∧ vk = .slice KA j kc ∧ nx = .int .i64 (2 + (j : Int)) ∧ av = .int .i64 (a : Int) ∧ Hid (a = j * many) ∧ Hid (j ≤ 1 ∨ (j - 1) * many < ni) ∧ Hid (MdI w wr (.slice LA j lc) (.slice KA j kc) (leafsP many its j) (leafKidsP many its j) CL CK))
  case atStart => exact ⟨0, 0, none, 0, none, 0, [], [], rfl, Nat.zero_le _, by omega, rfl, rfl, rfl, rfl, Lib.hid (Nat.zero_mul _).symm, Lib.hid (.inl (Nat.zero_le _)), Lib.hid (MdI.start w)⟩
  case round =>
    obtain ⟨j, a, LA, lc, KA, kc, CL, CK, rfl, hj, ha, rfl, rfl, rfl, rfl, HA, HJL, HM⟩ := hrel
    obtain ⟨w0, hw0⟩ : ∃ x, x = wr := ⟨_, rfl⟩
    by_cases hc : a < ni
    · have hc' : (a : Int) < (ni : Int) := by omega
      go_upto_region 8 with (fail)
      obtain ⟨w1, hw1⟩ : ∃ x, x = wr.alloc (.cells #[.bool true, .slice none 0 0, .slice none 0 0] 63) := ⟨_, rfl⟩
      obtain ⟨b12, hb12⟩ : ∃ x, x = wr.heap.size := ⟨_, rfl⟩
      have Hb12 : Hid (Blk w1 b12 63 [.bool true, .slice none 0 0, .slice none 0 0]) := Lib.hid (by rw [hw1, hb12]; exact Blk.new wr _ [.bool true, .slice none 0 0, .slice none 0 0])
      have HXb12 : Hid (Only (wr.heap.size ≤ ·) wr w1) := Lib.hid (by rw [hw1]; exact (Only.refl _ wr).alloc (fun _ h => h) _)
      have HEQb12 : Hid (w1 = wr.alloc (.cells #[.bool true, .slice none 0 0, .slice none 0 0] 63) ∧ b12 = wr.heap.size) := Lib.hid ⟨hw1, hb12⟩
      clear hw1 hb12
      have HOW : Hid (Only (w.heap.size ≤ ·) w wr) := Lib.hid HM.out.on
      rw [← HEQb12.out.1, ← HEQb12.out.2]
      subst hw0
      have HBN : Hid (w0.heap.size ≤ b12) := Lib.hid (Nat.le_of_eq HEQb12.out.2.symm)
      go_wp2_with (fail)
      go_loopg [13] many (fun gk kv wr => ∃ (q kk : Nat) (R : Option Addr) (t : Nat) (C : List Value), gk = many - q ∧ q ≤ many ∧ kk ≤ ni ∧ kv = .int .i64 (kk : Int) ∧ Hid (kk = a + q) ∧ Hid (Blk wr b12 63 [.bool true, .slice R q t, .slice none 0 0]) ∧ Hid (wr.ownsRow w0.heap.size 44 4 (.slice R q t) q C) ∧ Hid (Den (itE.At w) ((its.drop a).take q) C) ∧ Hid (Only (w0.heap.size ≤ ·) w0 wr))
      case atStart => exact ⟨0, a, none, 0, [], rfl, Nat.zero_le _, by omega, rfl, Lib.hid rfl, Hb12, Lib.hid (World.ownsRow_nil _ _ _ _), Lib.hid (by rw [List.take_zero]; rfl), HXb12⟩
      case round =>
        obtain ⟨q, kk, R, t, C, rfl, hq, hkn, rfl, HKK, HB, HR, HCD, HO⟩ := hrel
        have hkk : kk = a + q := HKK.out
        by_cases hin : kk < ni ∧ q < many
        · obtain ⟨hlt, hqm⟩ := hin
          have hlt' : (kk : Int) < (ni : Int) := by omega
          have hqm' : (kk : Int) < (a : Int) + (many : Int) := by omega
          clear hkk
          obtain ⟨bb, off, y, cs, e, hbb, hy, hit, hcs⟩ := Rw.at_ (E := itE) (by decide) HI.out hlt
          have HIT0 := Lib.hid hit
          obtain ⟨P1, p1, Q1, q1, rfl, _, _⟩ := hit
          have HY := Lib.hid hy
          obtain ⟨yk, hyk⟩ : ∃ z, z = y.1.length := ⟨_, rfl⟩
          obtain ⟨yv, hyv⟩ : ∃ z, z = y.2.1.length := ⟨_, rfl⟩
          obtain ⟨ys, hys⟩ : ∃ z, z = y.2.2.1 := ⟨_, rfl⟩
          obtain ⟨yr, hyr⟩ : ∃ z, z = y.2.2.2 := ⟨_, rfl⟩
          rw [← hyk, ← hyv, ← hys, ← hyr] at HIT0 hcs
          have HIT : Hid (itE.At w y [.slice P1 yk p1, .slice Q1 yv q1, .int .i64 ys, .int .i64 yr]) := HIT0
          subst e
          have HOC : Hid (Only (w.heap.size ≤ ·) w wr) := Lib.hid (on_new HOW.out HO.out)
          have x0 : wr.cell? ⟨bb, off + kk * 4, none⟩ = some (.slice P1 yk p1) := cell_later (hcs 0 _ rfl) HOC.out
          have x1 : wr.cell? ⟨bb, off + kk * 4 + 1, none⟩ = some (.slice Q1 yv q1) := cell_later (hcs 1 _ rfl) HOC.out
          have x2 : wr.cell? ⟨bb, off + kk * 4 + 2, none⟩ = some (.int .i64 ys) := cell_later (hcs 2 _ rfl) HOC.out
          have x3 : wr.cell? ⟨bb, off + kk * 4 + 3, none⟩ = some (.int .i64 yr) := cell_later (hcs 3 _ rfl) HOC.out
          clear hcs hbb hy hyk hyv hys hyr HIT0
          obtain ⟨o0, o1, o2⟩ := HB.out.tri
          go_upto_region 11 with (fail)
          obtain ⟨wx, hwx⟩ : ∃ wx, wx = wr.drew := ⟨_, rfl⟩
          have HBX : Hid (Blk wx b12 63 [.bool true, .slice R q t, .slice none 0 0]) := Lib.hid (by rw [hwx]; exact HB.out.drew)
          have HDX : Hid (Only (wr.heap.size ≤ ·) wr wx) := Lib.hid (by rw [hwx]; exact (Only.refl _ wr).drew)
          have HRX := Lib.hid (own_later HR.out HDX.out)
          have HOX := Lib.hid (on_new HO.out HDX.out)
          have HBA : Hid (Blk (wx.alloc (.cells #[.slice P1 yk p1, .slice Q1 yv q1, .int .i64 ys, .int .i64 yr] 44)) wx.heap.size 44 [.slice P1 yk p1, .slice Q1 yv q1, .int .i64 ys, .int .i64 yr]) := Lib.hid (Blk.new wx 44 _)
          have HBY := Lib.hid (HBX.out.alloc (.cells #[.slice P1 yk p1, .slice Q1 yv q1, .int .i64 ys, .int .i64 yr] 44))
          clear o0 o1 o2
          obtain ⟨o0, o1, o2⟩ := HBX.out.tri
          obtain ⟨u0, u1, u2⟩ := HBY.out.tri
          replace x0 := cell_later x0 HDX.out
          replace x1 := cell_later x1 HDX.out
          replace x2 := cell_later x2 HDX.out
          replace x3 := cell_later x3 HDX.out
          have hknn : (0 : Int) ≤ (kk : Int) := by omega
          refine wp_region_list (B := [false, false, false, false, false, false, false, false, false, false]) (S := (fun _ => True)) (by kernel_rfl) (by kernel_rfl) (by kernel_rfl) trivial (fun hsel hHeld => ?_)
          rw [← hwx]
          clear hwx
          refine oneA 0 45 hsel (h := ?_)
          simp only [Act.put, List.setIfInBounds_toArray, List.set_cons_zero, List.set_cons_succ]
          refine oneA 2 47 hsel (h := ?_)
          simp only [Act.put, List.setIfInBounds_toArray, List.set_cons_zero, List.set_cons_succ]
          refine oneA 3 48 hsel (h := ?_)
          simp only [Act.put, List.setIfInBounds_toArray, List.set_cons_zero, List.set_cons_succ]
          refine oneA 4 49 hsel (h := ?_)
          simp only [Act.put, List.setIfInBounds_toArray, List.set_cons_zero, List.set_cons_succ]
          refine wpAnyL_ready (rs := [1, 5]) (by kernel_rfl) (by kernel_rfl) (by simp) ?_
          refine AllReadyL.cons (o := ?_) ?_ (fun K hK => ?_) (AllReadyL.cons (o := ?_) ?_ (fun K hK => ?_) AllReadyL.nil)
          case refine_2 => (simp only [List.getElem?_cons_succ, List.getElem?_cons_zero]; rfl)
          case refine_5 => (simp only [List.getElem?_cons_succ, List.getElem?_cons_zero]; rfl)
          case refine_3 =>
            go_simp
            clear hHeld
            refine hK.out _ _ trivial (fun hHeld => ?_)
            clear hK K
            try simp only [List.set_cons_zero, List.set_cons_succ]
            refine wpAnyL_ready (rs := [5]) (by kernel_rfl) (by kernel_rfl) (by simp) ?_
            refine AllReadyL.cons (o := ?_) ?_ (fun K hK => ?_) AllReadyL.nil
            case refine_2 => (simp only [List.getElem?_cons_succ, List.getElem?_cons_zero]; rfl)
            go_simp
            clear hHeld
            refine hK.out _ _ trivial (fun hHeld => ?_)
            clear hK K
            try simp only [List.set_cons_zero, List.set_cons_succ]
            refine wpAnyL_ready (rs := [6]) (by kernel_rfl) (by kernel_rfl) (by simp) ?_
            refine AllReadyL.cons (o := ?_) ?_ (fun K hK => ?_) AllReadyL.nil
            case refine_2 => (simp only [List.getElem?_cons_succ, List.getElem?_cons_zero]; rfl)
            go_simp
            clear hHeld
            refine hK.out _ _ trivial (fun hHeld => ?_)
            clear hK K
            try simp only [List.set_cons_zero, List.set_cons_succ]
            refine wpAnyL_ready (rs := [7]) (by kernel_rfl) (by kernel_rfl) (by simp) ?_
            refine AllReadyL.cons (o := ?_) ?_ (fun K hK => ?_) AllReadyL.nil
            case refine_2 => (simp only [List.getElem?_cons_succ, List.getElem?_cons_zero]; rfl)
            rw [if_pos (by kernel_rfl)]
            refine wp_append_at (.tmp 46) (.tmp 51) 26 rfl w0.heap.size 44 i1 zI 4 64 Try.underlying26 HI1.out.1 HI1.out.2.1 HI1.out.2.2.1 HI1.out.2.2.2 (by rfl) (by omega) (.slice R q t) q C rfl (World.ownsRow.alloc HRX.out _) ⟨wx.heap.size, 0, none⟩ 1 1 [.slice P1 yk p1, .slice Q1 yv q1, .int .i64 ys, .int .i64 yr] rfl rfl (fun j u hu => by rw [Addr.add_lit, HBA.out.cell, Nat.zero_add]; exact hu) (by simp [Value.oneCell']) (by simp only [maxLen]; omega) (by omega) (by have := HOX.out.size; simp; omega) ?_
            intro v' w' ho' hg' hat'
            obtain ⟨R2, t2, rfl, _⟩ := raw_of_own ho'
            have HB2 : Hid (Blk w' b12 63 [.bool true, .slice R q t, .slice none 0 0]) := Lib.hid ((HBX.out.alloc _).grown hg' (own_ne HRX.out HBX.out (by decide)))
            have HRN := Lib.hid ho'
            have HON : Hid (Only (w0.heap.size ≤ ·) w0 w') := Lib.hid ((HOX.out.alloc (fun _ h => h) _).grown hg' (fun _ h => h) (fun g hg => (World.ownsRow.lt HRX.out g hg).1))
            obtain ⟨y0, y1, y2⟩ := HB2.out.tri
            obtain ⟨g0, g1, g2⟩ := HB2.out.melt3
            clear ho' hg' hat'
            clear hHeld
            refine hK.out _ _ trivial (fun hHeld => ?_)
            clear hK K
            try simp only [Act.put, List.setIfInBounds_toArray, List.set_cons_zero, List.set_cons_succ]
            refine oneA 8 53 hsel (h := ?_)
            simp only [Act.put, List.setIfInBounds_toArray, List.set_cons_zero, List.set_cons_succ]
            refine wpAnyL_ready (rs := [9]) (by kernel_rfl) (by kernel_rfl) (by simp) ?_
            refine AllReadyL.cons (o := ?_) ?_ (fun K hK => ?_) AllReadyL.nil
            case refine_2 => (simp only [List.getElem?_cons_succ, List.getElem?_cons_zero]; rfl)
            go_simp
            clear hHeld
            refine hK.out _ _ trivial (fun hHeld => ?_)
            clear hK K
            try simp only [List.set_cons_zero, List.set_cons_succ]
            refine wpAnyL_done (by kernel_rfl) (by kernel_rfl) ?_ _
            clear hsel hHeld
            go_wp2_with (fail)
            have HRF := Lib.hid (own_on (F := (· = b12)) HRN.out ((Only.refl (· = b12) w').setCell (p := ⟨b12, 1, none⟩) rfl (.slice R2 (q + 1) t2)) (fun j hj e => by
              subst e
              exact own_ne HRN.out HB2.out (by decide) hj))
            have HBF := Lib.hid (HB2.out.set_ 1 (.slice R2 (q + 1) t2))
            have HOF : Hid (Only (w0.heap.size ≤ ·) w0 (w'.setCell ⟨b12, 1, none⟩ (.slice R2 (q + 1) t2))) := Lib.hid (HON.out.setCell (p := ⟨b12, 1, none⟩) HBN.out _)
            go_roundg (many - (q + 1))
            case measure => omega
            case rel => exact ⟨q + 1, kk + 1, R2, t2, _, rfl, by omega, by omega, by go_num, Lib.hid (by have := HKK.out; omega), HBF, HRF, Lib.hid (chunk_den HCD.out HY.out HIT.out (by have := HKK.out; exact this)), HOF⟩
          case refine_6 =>
            go_simp
            clear hHeld
            refine hK.out _ _ trivial (fun hHeld => ?_)
            clear hK K
            try simp only [List.set_cons_zero, List.set_cons_succ]
            refine wpAnyL_ready (rs := [1, 6]) (by kernel_rfl) (by kernel_rfl) (by simp) ?_
            refine AllReadyL.cons (o := ?_) ?_ (fun K hK => ?_) (AllReadyL.cons (o := ?_) ?_ (fun K hK => ?_) AllReadyL.nil)
            case refine_2 => (simp only [List.getElem?_cons_succ, List.getElem?_cons_zero]; rfl)
            case refine_5 => (simp only [List.getElem?_cons_succ, List.getElem?_cons_zero]; rfl)
            case refine_3 =>
              go_simp
              clear hHeld
              refine hK.out _ _ trivial (fun hHeld => ?_)
              clear hK K
              try simp only [List.set_cons_zero, List.set_cons_succ]
              refine wpAnyL_ready (rs := [6]) (by kernel_rfl) (by kernel_rfl) (by simp) ?_
              refine AllReadyL.cons (o := ?_) ?_ (fun K hK => ?_) AllReadyL.nil
              case refine_2 => (simp only [List.getElem?_cons_succ, List.getElem?_cons_zero]; rfl)
              go_simp
              clear hHeld
              refine hK.out _ _ trivial (fun hHeld => ?_)
              clear hK K
              try simp only [List.set_cons_zero, List.set_cons_succ]
              refine wpAnyL_ready (rs := [7]) (by kernel_rfl) (by kernel_rfl) (by simp) ?_
              refine AllReadyL.cons (o := ?_) ?_ (fun K hK => ?_) AllReadyL.nil
              case refine_2 => (simp only [List.getElem?_cons_succ, List.getElem?_cons_zero]; rfl)
              rw [if_pos (by kernel_rfl)]
              refine wp_append_at (.tmp 46) (.tmp 51) 26 rfl w0.heap.size 44 i1 zI 4 64 Try.underlying26 HI1.out.1 HI1.out.2.1 HI1.out.2.2.1 HI1.out.2.2.2 (by rfl) (by omega) (.slice R q t) q C rfl (World.ownsRow.alloc HRX.out _) ⟨wx.heap.size, 0, none⟩ 1 1 [.slice P1 yk p1, .slice Q1 yv q1, .int .i64 ys, .int .i64 yr] rfl rfl (fun j u hu => by rw [Addr.add_lit, HBA.out.cell, Nat.zero_add]; exact hu) (by simp [Value.oneCell']) (by simp only [maxLen]; omega) (by omega) (by have := HOX.out.size; simp; omega) ?_
              intro v' w' ho' hg' hat'
              obtain ⟨R2, t2, rfl, _⟩ := raw_of_own ho'
              have HB2 : Hid (Blk w' b12 63 [.bool true, .slice R q t, .slice none 0 0]) := Lib.hid ((HBX.out.alloc _).grown hg' (own_ne HRX.out HBX.out (by decide)))
              have HRN := Lib.hid ho'
              have HON : Hid (Only (w0.heap.size ≤ ·) w0 w') := Lib.hid ((HOX.out.alloc (fun _ h => h) _).grown hg' (fun _ h => h) (fun g hg => (World.ownsRow.lt HRX.out g hg).1))
              obtain ⟨y0, y1, y2⟩ := HB2.out.tri
              obtain ⟨g0, g1, g2⟩ := HB2.out.melt3
              clear ho' hg' hat'
              clear hHeld
              refine hK.out _ _ trivial (fun hHeld => ?_)
              clear hK K
              try simp only [Act.put, List.setIfInBounds_toArray, List.set_cons_zero, List.set_cons_succ]
              refine oneA 8 53 hsel (h := ?_)
              simp only [Act.put, List.setIfInBounds_toArray, List.set_cons_zero, List.set_cons_succ]
              refine wpAnyL_ready (rs := [9]) (by kernel_rfl) (by kernel_rfl) (by simp) ?_
              refine AllReadyL.cons (o := ?_) ?_ (fun K hK => ?_) AllReadyL.nil
              case refine_2 => (simp only [List.getElem?_cons_succ, List.getElem?_cons_zero]; rfl)
              go_simp
              clear hHeld
              refine hK.out _ _ trivial (fun hHeld => ?_)
              clear hK K
              try simp only [List.set_cons_zero, List.set_cons_succ]
              refine wpAnyL_done (by kernel_rfl) (by kernel_rfl) ?_ _
              clear hsel hHeld
              go_wp2_with (fail)
              have HRF := Lib.hid (own_on (F := (· = b12)) HRN.out ((Only.refl (· = b12) w').setCell (p := ⟨b12, 1, none⟩) rfl (.slice R2 (q + 1) t2)) (fun j hj e => by
                subst e
                exact own_ne HRN.out HB2.out (by decide) hj))
              have HBF := Lib.hid (HB2.out.set_ 1 (.slice R2 (q + 1) t2))
              have HOF : Hid (Only (w0.heap.size ≤ ·) w0 (w'.setCell ⟨b12, 1, none⟩ (.slice R2 (q + 1) t2))) := Lib.hid (HON.out.setCell (p := ⟨b12, 1, none⟩) HBN.out _)
              go_roundg (many - (q + 1))
              case measure => omega
              case rel => exact ⟨q + 1, kk + 1, R2, t2, _, rfl, by omega, by omega, by go_num, Lib.hid (by have := HKK.out; omega), HBF, HRF, Lib.hid (chunk_den HCD.out HY.out HIT.out (by have := HKK.out; exact this)), HOF⟩
            case refine_6 =>
              go_simp
              clear hHeld
              refine hK.out _ _ trivial (fun hHeld => ?_)
              clear hK K
              try simp only [List.set_cons_zero, List.set_cons_succ]
              refine wpAnyL_ready (rs := [1]) (by kernel_rfl) (by kernel_rfl) (by simp) ?_
              refine AllReadyL.cons (o := ?_) ?_ (fun K hK => ?_) AllReadyL.nil
              case refine_2 => (simp only [List.getElem?_cons_succ, List.getElem?_cons_zero]; rfl)
              go_simp
              clear hHeld
              refine hK.out _ _ trivial (fun hHeld => ?_)
              clear hK K
              try simp only [List.set_cons_zero, List.set_cons_succ]
              refine wpAnyL_ready (rs := [7]) (by kernel_rfl) (by kernel_rfl) (by simp) ?_
              refine AllReadyL.cons (o := ?_) ?_ (fun K hK => ?_) AllReadyL.nil
              case refine_2 => (simp only [List.getElem?_cons_succ, List.getElem?_cons_zero]; rfl)
              rw [if_pos (by kernel_rfl)]
              refine wp_append_at (.tmp 46) (.tmp 51) 26 rfl w0.heap.size 44 i1 zI 4 64 Try.underlying26 HI1.out.1 HI1.out.2.1 HI1.out.2.2.1 HI1.out.2.2.2 (by rfl) (by omega) (.slice R q t) q C rfl (World.ownsRow.alloc HRX.out _) ⟨wx.heap.size, 0, none⟩ 1 1 [.slice P1 yk p1, .slice Q1 yv q1, .int .i64 ys, .int .i64 yr] rfl rfl (fun j u hu => by rw [Addr.add_lit, HBA.out.cell, Nat.zero_add]; exact hu) (by simp [Value.oneCell']) (by simp only [maxLen]; omega) (by omega) (by have := HOX.out.size; simp; omega) ?_
              intro v' w' ho' hg' hat'
              obtain ⟨R2, t2, rfl, _⟩ := raw_of_own ho'
              have HB2 : Hid (Blk w' b12 63 [.bool true, .slice R q t, .slice none 0 0]) := Lib.hid ((HBX.out.alloc _).grown hg' (own_ne HRX.out HBX.out (by decide)))
              have HRN := Lib.hid ho'
              have HON : Hid (Only (w0.heap.size ≤ ·) w0 w') := Lib.hid ((HOX.out.alloc (fun _ h => h) _).grown hg' (fun _ h => h) (fun g hg => (World.ownsRow.lt HRX.out g hg).1))
              obtain ⟨y0, y1, y2⟩ := HB2.out.tri
              obtain ⟨g0, g1, g2⟩ := HB2.out.melt3
              clear ho' hg' hat'
              clear hHeld
              refine hK.out _ _ trivial (fun hHeld => ?_)
              clear hK K
              try simp only [Act.put, List.setIfInBounds_toArray, List.set_cons_zero, List.set_cons_succ]
              refine oneA 8 53 hsel (h := ?_)
              simp only [Act.put, List.setIfInBounds_toArray, List.set_cons_zero, List.set_cons_succ]
              refine wpAnyL_ready (rs := [9]) (by kernel_rfl) (by kernel_rfl) (by simp) ?_
              refine AllReadyL.cons (o := ?_) ?_ (fun K hK => ?_) AllReadyL.nil
              case refine_2 => (simp only [List.getElem?_cons_succ, List.getElem?_cons_zero]; rfl)
              go_simp
              clear hHeld
              refine hK.out _ _ trivial (fun hHeld => ?_)
              clear hK K
              try simp only [List.set_cons_zero, List.set_cons_succ]
              refine wpAnyL_done (by kernel_rfl) (by kernel_rfl) ?_ _
              clear hsel hHeld
              go_wp2_with (fail)
              have HRF := Lib.hid (own_on (F := (· = b12)) HRN.out ((Only.refl (· = b12) w').setCell (p := ⟨b12, 1, none⟩) rfl (.slice R2 (q + 1) t2)) (fun j hj e => by
                subst e
                exact own_ne HRN.out HB2.out (by decide) hj))
              have HBF := Lib.hid (HB2.out.set_ 1 (.slice R2 (q + 1) t2))
              have HOF : Hid (Only (w0.heap.size ≤ ·) w0 (w'.setCell ⟨b12, 1, none⟩ (.slice R2 (q + 1) t2))) := Lib.hid (HON.out.setCell (p := ⟨b12, 1, none⟩) HBN.out _)
              go_roundg (many - (q + 1))
              case measure => omega
              case rel => exact ⟨q + 1, kk + 1, R2, t2, _, rfl, by omega, by omega, by go_num, Lib.hid (by have := HKK.out; omega), HBF, HRF, Lib.hid (chunk_den HCD.out HY.out HIT.out (by have := HKK.out; exact this)), HOF⟩
        · by_cases hlt : kk < ni
          · have hqm : ¬ (kk : Int) < (a : Int) + (many : Int) := by omega
            have hlt' : (kk : Int) < (ni : Int) := by omega
            have HCH : Hid ((its.drop a).take q = chunkP many its j) := Lib.hid (by unfold chunkP; rw [← HA.out]; rw [show q = many by omega])
            have hq0 : 0 < q := by omega
            obtain ⟨q', rfl⟩ : ∃ q', q = q' + 1 := ⟨q - 1, by omega⟩
            have hqq : q' + 1 ≤ 1000 := by omega
            have HKL := Lib.hid hkk
            clear hkk hin hq hq0
            obtain ⟨g, t', e, hgb⟩ := own_form HR.out (Nat.succ_pos q')
            cases e
            obtain ⟨yy, P, p, hyy, hC0, hsy⟩ := head_den HCD.out (len_take HKL.out HNI.out (by omega))
            obtain ⟨yk, hyk⟩ : ∃ z, z = yy.length := ⟨_, rfl⟩
            rw [← hyk] at hC0 hsy
            have HSY := Lib.hid hsy
            have HYY : Hid (headKey (chunkP many its j) = yy) := Lib.hid (by rw [← HCH.out]; exact hyy)
            have HYK := Lib.hid hyk
            have k0 := own_cell0 HR.out hC0
            clear hsy hyy hyk hC0
            obtain ⟨o0, o1, o2⟩ := HB.out.tri
            go_upto_region 13 with (fail)
            obtain ⟨w2, hw2⟩ : ∃ x, x = wr.alloc (.cells #[.slice none 0 0, .int .i64 (2 + (j : Int))] 87) := ⟨_, rfl⟩
            obtain ⟨b14, hb14⟩ : ∃ x, x = wr.heap.size := ⟨_, rfl⟩
            have Hb14 : Hid (Blk w2 b14 87 [.slice none 0 0, .int .i64 (2 + (j : Int))]) := Lib.hid (by rw [hw2, hb14]; exact Blk.new wr _ [.slice none 0 0, .int .i64 (2 + (j : Int))])
            have HXb14 : Hid (Only (wr.heap.size ≤ ·) wr w2) := Lib.hid (by rw [hw2]; exact (Only.refl _ wr).alloc (fun _ h => h) _)
            have HEQb14 : Hid (w2 = wr.alloc (.cells #[.slice none 0 0, .int .i64 (2 + (j : Int))] 87) ∧ b14 = wr.heap.size) := Lib.hid ⟨hw2, hb14⟩
            clear hw2 hb14
            have HB2 := Lib.hid (HB.out.later HXb14.out)
            have HR2 := Lib.hid (own_later HR.out HXb14.out)
            have HO2 := Lib.hid (on_new HO.out HXb14.out)
            replace k0 := cell_later k0 HXb14.out
            rw [← HEQb14.out.1, ← HEQb14.out.2]
            clear o0 o1 o2
            obtain ⟨o0, o1, o2⟩ := HB2.out.tri
            have f0 := Hb14.out.frozen 0
            obtain ⟨p0, p1⟩ := Hb14.out.pair
            go_upto_region 15 with (fail)
            obtain ⟨w3, hw3⟩ : ∃ x, x = w2.setCell ⟨b14, 0, none⟩ (.slice P yk p) := ⟨_, rfl⟩
            have HS3 : Hid (Only (· = b14) w2 w3) := Lib.hid (by rw [hw3]; exact (Only.refl (· = b14) w2).setCell (p := ⟨b14, 0, none⟩) rfl _)
            have HX3 : Hid (Blk w3 b14 87 [.slice P yk p, .int .i64 (2 + (j : Int))]) := Lib.hid (by rw [hw3]; exact Hb14.out.set_ 0 _)
            have HBNE : Hid (¬ b12 = b14 ∧ w0.heap.size ≤ b14) := Lib.hid ⟨fun e => by have h1 := HB.out.lt; have h2 := HEQb14.out.2; omega, by rw [HEQb14.out.2]; exact HO.out.size⟩
            have HB3 := Lib.hid (HB2.out.only HS3.out (fun e => HBNE.out.1 e))
            have HR3 := Lib.hid (own_on HR2.out HS3.out (fun k hk e => own_ne HR2.out Hb14.out (by decide) (e ▸ hk)))
            have HO3 : Hid (Only (w0.heap.size ≤ ·) w0 w3) := Lib.hid (HO2.out.trans (HS3.out.mono fun k e => by rw [e]; exact HBNE.out.2))
            rw [← hw3]
            clear hw3 o0 o1 o2 f0 p0 p1 k0
            have HM3 := Lib.hid (HM.out.later HO3.out)
            obtain ⟨o0, o1, o2⟩ := HB3.out.tri
            have HBA : Hid (Blk (w3.alloc (.cells #[.int .i64 (2 + (j : Int)), .bool true, .slice (some ⟨g, 0, none⟩) (q' + 1) t, .slice none 0 0] 65)) w3.heap.size 65 [.int .i64 (2 + (j : Int)), .bool true, .slice (some ⟨g, 0, none⟩) (q' + 1) t, .slice none 0 0]) := Lib.hid (Blk.new w3 _ _)
            go_upto_region 16 with (at_builtin; go_loud (refine wpList_append_at rfl (.tmp 66) (.tmp 70) 22 rfl w.heap.size 65 i2 zN 4 64 Try.underlying22 HI2.out.1 HI2.out.2.1 HI2.out.2.2.1 HI2.out.2.2.2 (by rfl) (by omega) (.slice LA j lc) j CL rfl (World.ownsRow.alloc (own_cast HM3.out.rl (leafs_len many its j)) _) ⟨w3.heap.size, 0, none⟩ 1 1 [.int .i64 (2 + (j : Int)), .bool true, .slice (some ⟨g, 0, none⟩) (q' + 1) t, .slice none 0 0] rfl rfl (fun j u hu => by rw [Addr.add_lit, HBA.out.cell, Nat.zero_add]; exact hu) (by simp [Value.oneCell']) (by simp only [maxLen]; omega) (by omega) (by have := HM3.out.on.size; simp; omega) ?_; intro v' w4 ho' hg' hat'; (obtain ⟨R2, t2, rfl, _⟩ := raw_of_own ho'); have HL4 := Lib.hid ho'; have HG4 := Lib.hid (grow_only hg'); have HAT4 := Lib.hid (hat_new hat'); clear ho' hg' hat'))
            have HX4 := Lib.hid (HX3.out.only HG4.out (fun e => e.elim (fun e => own_ne HM3.out.rl HX3.out (by decide) e) (fun e => by have := HX3.out.lt; omega)))
            have HK4 := Lib.hid (own_on HM3.out.rk HG4.out (fun k hk e => e.elim (fun e => own_apart HM3.out.rl HM3.out.rk (by decide) e hk) (fun e => by have := (World.ownsRow.lt HM3.out.rk k hk).2; omega)))
            have HR4 := Lib.hid (own_on HR3.out HG4.out (fun k hk e => e.elim (fun e => own_apart HM3.out.rl HR3.out (by decide) e hk) (fun e => by have := (World.ownsRow.lt HR3.out k hk).2; omega)))
            clear o0 o1 o2
            obtain ⟨p0, p1⟩ := HX4.out.pair
            have HBK : Hid (Blk (w4.alloc (.cells #[.slice P yk p, .int .i64 (2 + (j : Int))] 87)) w4.heap.size 87 [.slice P yk p, .int .i64 (2 + (j : Int))]) := Lib.hid (Blk.new w4 _ _)
            go_wp2_with (at_builtin; go_loud (refine wpList_append_at rfl (.tmp 72) (.tmp 74) 61 rfl w.heap.size 87 i3 zK 2 32 Try.underlying61 HI3.out.1 HI3.out.2.1 HI3.out.2.2.1 HI3.out.2.2.2 (by rfl) (by omega) (.slice KA j kc) j CK rfl (World.ownsRow.alloc (own_cast HK4.out (leafKids_len many its j)) _) ⟨w4.heap.size, 0, none⟩ 1 1 [.slice P yk p, .int .i64 (2 + (j : Int))] rfl rfl (fun j u hu => by rw [Addr.add_lit, HBK.out.cell, Nat.zero_add]; exact hu) (by simp [Value.oneCell']) (by simp only [maxLen]; omega) (by omega) (by have := HM3.out.on.size; have := HG4.out.size; simp; omega) ?_; intro v' w5 ho' hg' hat'; (obtain ⟨R3, t3, rfl, _⟩ := raw_of_own ho'); have HK5 := Lib.hid ho'; have HG5 := Lib.hid (grow_only hg'); have HAT5 := Lib.hid (hat_new hat'); clear ho' hg' hat'))
            have HMN := Lib.hid (leaf_round HM.out HO3.out HL4.out HG4.out HAT4.out HK4.out HR4.out HK5.out HG5.out HAT5.out (by rw [← HCH.out]; exact HCD.out) (by rw [← HCH.out]; exact chunk_len HKL.out HNI.out (by omega)) HYY.out HYK.out HSY.out)
            have HJN : Hid (j + 1 ≤ 1 ∨ (j + 1 - 1) * many < ni) := Lib.hid (.inr (by rw [Nat.add_sub_cancel, ← HA.out]; exact hc))
            have HAN : Hid (a + many = (j + 1) * many) := Lib.hid (by rw [HA.out, Nat.succ_mul])
            have hja : j ≤ a := by rw [HA.out]; exact Nat.le_mul_of_pos_right j (by omega)
            go_roundg (ni + 1 - (j + 1))
            case measure => omega
            case rel => exact ⟨j + 1, a + many, R2, t2, R3, t3, _, _, rfl, by omega, by omega, rfl, rfl, by go_num, by go_num, HAN, HJN, HMN⟩
          · have hlt' : ¬ (kk : Int) < (ni : Int) := by omega
            have HCH : Hid ((its.drop a).take q = chunkP many its j) := Lib.hid (by unfold chunkP; rw [← HA.out]; rw [List.take_of_length_le (by rw [List.length_drop]; have := HNI.out; omega), List.take_of_length_le (by rw [List.length_drop]; have := HNI.out; omega)])
            have hq0 : 0 < q := by omega
            obtain ⟨q', rfl⟩ : ∃ q', q = q' + 1 := ⟨q - 1, by omega⟩
            have hqq : q' + 1 ≤ 1000 := by omega
            have HKL := Lib.hid hkk
            clear hkk hin hq hq0
            obtain ⟨g, t', e, hgb⟩ := own_form HR.out (Nat.succ_pos q')
            cases e
            obtain ⟨yy, P, p, hyy, hC0, hsy⟩ := head_den HCD.out (len_take HKL.out HNI.out (by omega))
            obtain ⟨yk, hyk⟩ : ∃ z, z = yy.length := ⟨_, rfl⟩
            rw [← hyk] at hC0 hsy
            have HSY := Lib.hid hsy
            have HYY : Hid (headKey (chunkP many its j) = yy) := Lib.hid (by rw [← HCH.out]; exact hyy)
            have HYK := Lib.hid hyk
            have k0 := own_cell0 HR.out hC0
            clear hsy hyy hyk hC0
            obtain ⟨o0, o1, o2⟩ := HB.out.tri
            go_upto_region 13 with (fail)
            obtain ⟨w2, hw2⟩ : ∃ x, x = wr.alloc (.cells #[.slice none 0 0, .int .i64 (2 + (j : Int))] 87) := ⟨_, rfl⟩
            obtain ⟨b14, hb14⟩ : ∃ x, x = wr.heap.size := ⟨_, rfl⟩
            have Hb14 : Hid (Blk w2 b14 87 [.slice none 0 0, .int .i64 (2 + (j : Int))]) := Lib.hid (by rw [hw2, hb14]; exact Blk.new wr _ [.slice none 0 0, .int .i64 (2 + (j : Int))])
            have HXb14 : Hid (Only (wr.heap.size ≤ ·) wr w2) := Lib.hid (by rw [hw2]; exact (Only.refl _ wr).alloc (fun _ h => h) _)
            have HEQb14 : Hid (w2 = wr.alloc (.cells #[.slice none 0 0, .int .i64 (2 + (j : Int))] 87) ∧ b14 = wr.heap.size) := Lib.hid ⟨hw2, hb14⟩
            clear hw2 hb14
            have HB2 := Lib.hid (HB.out.later HXb14.out)
            have HR2 := Lib.hid (own_later HR.out HXb14.out)
            have HO2 := Lib.hid (on_new HO.out HXb14.out)
            replace k0 := cell_later k0 HXb14.out
            rw [← HEQb14.out.1, ← HEQb14.out.2]
            clear o0 o1 o2
            obtain ⟨o0, o1, o2⟩ := HB2.out.tri
            have f0 := Hb14.out.frozen 0
            obtain ⟨p0, p1⟩ := Hb14.out.pair
            go_upto_region 15 with (fail)
            obtain ⟨w3, hw3⟩ : ∃ x, x = w2.setCell ⟨b14, 0, none⟩ (.slice P yk p) := ⟨_, rfl⟩
            have HS3 : Hid (Only (· = b14) w2 w3) := Lib.hid (by rw [hw3]; exact (Only.refl (· = b14) w2).setCell (p := ⟨b14, 0, none⟩) rfl _)
            have HX3 : Hid (Blk w3 b14 87 [.slice P yk p, .int .i64 (2 + (j : Int))]) := Lib.hid (by rw [hw3]; exact Hb14.out.set_ 0 _)
            have HBNE : Hid (¬ b12 = b14 ∧ w0.heap.size ≤ b14) := Lib.hid ⟨fun e => by have h1 := HB.out.lt; have h2 := HEQb14.out.2; omega, by rw [HEQb14.out.2]; exact HO.out.size⟩
            have HB3 := Lib.hid (HB2.out.only HS3.out (fun e => HBNE.out.1 e))
            have HR3 := Lib.hid (own_on HR2.out HS3.out (fun k hk e => own_ne HR2.out Hb14.out (by decide) (e ▸ hk)))
            have HO3 : Hid (Only (w0.heap.size ≤ ·) w0 w3) := Lib.hid (HO2.out.trans (HS3.out.mono fun k e => by rw [e]; exact HBNE.out.2))
            rw [← hw3]
            clear hw3 o0 o1 o2 f0 p0 p1 k0
            have HM3 := Lib.hid (HM.out.later HO3.out)
            obtain ⟨o0, o1, o2⟩ := HB3.out.tri
            have HBA : Hid (Blk (w3.alloc (.cells #[.int .i64 (2 + (j : Int)), .bool true, .slice (some ⟨g, 0, none⟩) (q' + 1) t, .slice none 0 0] 65)) w3.heap.size 65 [.int .i64 (2 + (j : Int)), .bool true, .slice (some ⟨g, 0, none⟩) (q' + 1) t, .slice none 0 0]) := Lib.hid (Blk.new w3 _ _)
            go_upto_region 16 with (at_builtin; go_loud (refine wpList_append_at rfl (.tmp 66) (.tmp 70) 22 rfl w.heap.size 65 i2 zN 4 64 Try.underlying22 HI2.out.1 HI2.out.2.1 HI2.out.2.2.1 HI2.out.2.2.2 (by rfl) (by omega) (.slice LA j lc) j CL rfl (World.ownsRow.alloc (own_cast HM3.out.rl (leafs_len many its j)) _) ⟨w3.heap.size, 0, none⟩ 1 1 [.int .i64 (2 + (j : Int)), .bool true, .slice (some ⟨g, 0, none⟩) (q' + 1) t, .slice none 0 0] rfl rfl (fun j u hu => by rw [Addr.add_lit, HBA.out.cell, Nat.zero_add]; exact hu) (by simp [Value.oneCell']) (by simp only [maxLen]; omega) (by omega) (by have := HM3.out.on.size; simp; omega) ?_; intro v' w4 ho' hg' hat'; (obtain ⟨R2, t2, rfl, _⟩ := raw_of_own ho'); have HL4 := Lib.hid ho'; have HG4 := Lib.hid (grow_only hg'); have HAT4 := Lib.hid (hat_new hat'); clear ho' hg' hat'))
            have HX4 := Lib.hid (HX3.out.only HG4.out (fun e => e.elim (fun e => own_ne HM3.out.rl HX3.out (by decide) e) (fun e => by have := HX3.out.lt; omega)))
            have HK4 := Lib.hid (own_on HM3.out.rk HG4.out (fun k hk e => e.elim (fun e => own_apart HM3.out.rl HM3.out.rk (by decide) e hk) (fun e => by have := (World.ownsRow.lt HM3.out.rk k hk).2; omega)))
            have HR4 := Lib.hid (own_on HR3.out HG4.out (fun k hk e => e.elim (fun e => own_apart HM3.out.rl HR3.out (by decide) e hk) (fun e => by have := (World.ownsRow.lt HR3.out k hk).2; omega)))
            clear o0 o1 o2
            obtain ⟨p0, p1⟩ := HX4.out.pair
            have HBK : Hid (Blk (w4.alloc (.cells #[.slice P yk p, .int .i64 (2 + (j : Int))] 87)) w4.heap.size 87 [.slice P yk p, .int .i64 (2 + (j : Int))]) := Lib.hid (Blk.new w4 _ _)
            go_wp2_with (at_builtin; go_loud (refine wpList_append_at rfl (.tmp 72) (.tmp 74) 61 rfl w.heap.size 87 i3 zK 2 32 Try.underlying61 HI3.out.1 HI3.out.2.1 HI3.out.2.2.1 HI3.out.2.2.2 (by rfl) (by omega) (.slice KA j kc) j CK rfl (World.ownsRow.alloc (own_cast HK4.out (leafKids_len many its j)) _) ⟨w4.heap.size, 0, none⟩ 1 1 [.slice P yk p, .int .i64 (2 + (j : Int))] rfl rfl (fun j u hu => by rw [Addr.add_lit, HBK.out.cell, Nat.zero_add]; exact hu) (by simp [Value.oneCell']) (by simp only [maxLen]; omega) (by omega) (by have := HM3.out.on.size; have := HG4.out.size; simp; omega) ?_; intro v' w5 ho' hg' hat'; (obtain ⟨R3, t3, rfl, _⟩ := raw_of_own ho'); have HK5 := Lib.hid ho'; have HG5 := Lib.hid (grow_only hg'); have HAT5 := Lib.hid (hat_new hat'); clear ho' hg' hat'))
            have HMN := Lib.hid (leaf_round HM.out HO3.out HL4.out HG4.out HAT4.out HK4.out HR4.out HK5.out HG5.out HAT5.out (by rw [← HCH.out]; exact HCD.out) (by rw [← HCH.out]; exact chunk_len HKL.out HNI.out (by omega)) HYY.out HYK.out HSY.out)
            have HJN : Hid (j + 1 ≤ 1 ∨ (j + 1 - 1) * many < ni) := Lib.hid (.inr (by rw [Nat.add_sub_cancel, ← HA.out]; exact hc))
            have HAN : Hid (a + many = (j + 1) * many) := Lib.hid (by rw [HA.out, Nat.succ_mul])
            have hja : j ≤ a := by rw [HA.out]; exact Nat.le_mul_of_pos_right j (by omega)
            go_roundg (ni + 1 - (j + 1))
            case measure => omega
            case rel => exact ⟨j + 1, a + many, R2, t2, R3, t3, _, _, rfl, by omega, by omega, rfl, rfl, by go_num, by go_num, HAN, HJN, HMN⟩
    · have hc' : ¬ (a : Int) < (ni : Int) := by omega
      by_cases ha0 : a = 0
      · obtain rfl : ni = 0 := by omega
        subst ha0
        have hj0 : j = 0 := by
          have h1 := HA.out
          rcases Nat.eq_zero_or_pos j with h | h
          · exact h
          · have := Nat.mul_pos h (show 0 < many by omega)
            omega
        have HJ0 := Lib.hid hj0
        clear hj0
        have HCE : Hid (chunkP many its j = []) := Lib.hid (by unfold chunkP; rw [List.length_eq_zero_iff.1 HNI.out.symm]; simp)
        clear hc hc'
        go_upto_region 8 with (fail)
        obtain ⟨w1, hw1⟩ : ∃ x, x = wr.alloc (.cells #[.bool true, .slice none 0 0, .slice none 0 0] 63) := ⟨_, rfl⟩
        obtain ⟨b12, hb12⟩ : ∃ x, x = wr.heap.size := ⟨_, rfl⟩
        have Hb12 : Hid (Blk w1 b12 63 [.bool true, .slice none 0 0, .slice none 0 0]) := Lib.hid (by rw [hw1, hb12]; exact Blk.new wr _ [.bool true, .slice none 0 0, .slice none 0 0])
        have HXb12 : Hid (Only (wr.heap.size ≤ ·) wr w1) := Lib.hid (by rw [hw1]; exact (Only.refl _ wr).alloc (fun _ h => h) _)
        have HEQb12 : Hid (w1 = wr.alloc (.cells #[.bool true, .slice none 0 0, .slice none 0 0] 63) ∧ b12 = wr.heap.size) := Lib.hid ⟨hw1, hb12⟩
        clear hw1 hb12
        have HOW : Hid (Only (w.heap.size ≤ ·) w wr) := Lib.hid HM.out.on
        rw [← HEQb12.out.1, ← HEQb12.out.2]
        subst hw0
        go_wp2_with (fail)
        go_loopg [13] 0 (fun gk kv wr => gk = 0 ∧ kv = .int .i64 0 ∧ wr = w1)
        case atStart => exact ⟨rfl, rfl, rfl⟩
        case round =>
          obtain ⟨rfl, rfl, rfl⟩ := hrel
          obtain ⟨o0, o1, o2⟩ := Hb12.out.tri
          go_upto_region 13 with (fail)
          obtain ⟨w2, hw2⟩ : ∃ x, x = wr.alloc (.cells #[.slice none 0 0, .int .i64 (2 + (j : Int))] 87) := ⟨_, rfl⟩
          obtain ⟨b14, hb14⟩ : ∃ x, x = wr.heap.size := ⟨_, rfl⟩
          have Hb14 : Hid (Blk w2 b14 87 [.slice none 0 0, .int .i64 (2 + (j : Int))]) := Lib.hid (by rw [hw2, hb14]; exact Blk.new wr _ [.slice none 0 0, .int .i64 (2 + (j : Int))])
          have HXb14 : Hid (Only (wr.heap.size ≤ ·) wr w2) := Lib.hid (by rw [hw2]; exact (Only.refl _ wr).alloc (fun _ h => h) _)
          have HEQb14 : Hid (w2 = wr.alloc (.cells #[.slice none 0 0, .int .i64 (2 + (j : Int))] 87) ∧ b14 = wr.heap.size) := Lib.hid ⟨hw2, hb14⟩
          clear hw2 hb14
          have HX3 := Hb14
          have HB3 := Lib.hid (Hb12.out.later HXb14.out)
          have HO3 := Lib.hid (on_new HXb12.out HXb14.out)
          have HR3 : Hid (w2.ownsRow w0.heap.size 44 4 (.slice none 0 0) 0 []) := Lib.hid (World.ownsRow_nil _ _ _ _)
          rw [← HEQb14.out.1, ← HEQb14.out.2]
          clear o0 o1 o2
          obtain ⟨o0, o1, o2⟩ := HB3.out.tri
          obtain ⟨p0, p1⟩ := Hb14.out.pair
          go_upto_region 15 with (fail)
          clear o0 o1 o2 p0 p1
          have HM3 := Lib.hid (HM.out.later HO3.out)
          obtain ⟨o0, o1, o2⟩ := HB3.out.tri
          have HBA : Hid (Blk (w2.alloc (.cells #[.int .i64 (2 + (j : Int)), .bool true, .slice none 0 0, .slice none 0 0] 65)) w2.heap.size 65 [.int .i64 (2 + (j : Int)), .bool true, .slice none 0 0, .slice none 0 0]) := Lib.hid (Blk.new w2 _ _)
          go_upto_region 16 with (at_builtin; go_loud (refine wpList_append_at rfl (.tmp 66) (.tmp 70) 22 rfl w.heap.size 65 i2 zN 4 64 Try.underlying22 HI2.out.1 HI2.out.2.1 HI2.out.2.2.1 HI2.out.2.2.2 (by rfl) (by omega) (.slice LA j lc) j CL rfl (World.ownsRow.alloc (own_cast HM3.out.rl (leafs_len many its j)) _) ⟨w2.heap.size, 0, none⟩ 1 1 [.int .i64 (2 + (j : Int)), .bool true, .slice none 0 0, .slice none 0 0] rfl rfl (fun j u hu => by rw [Addr.add_lit, HBA.out.cell, Nat.zero_add]; exact hu) (by simp [Value.oneCell']) (by simp only [maxLen]; omega) (by omega) (by have := HM3.out.on.size; simp; omega) ?_; intro v' w4 ho' hg' hat'; (obtain ⟨R2, t2, rfl, _⟩ := raw_of_own ho'); have HL4 := Lib.hid ho'; have HG4 := Lib.hid (grow_only hg'); have HAT4 := Lib.hid (hat_new hat'); clear ho' hg' hat'))
          have HX4 := Lib.hid (HX3.out.only HG4.out (fun e => e.elim (fun e => own_ne HM3.out.rl HX3.out (by decide) e) (fun e => by have := HX3.out.lt; omega)))
          have HK4 := Lib.hid (own_on HM3.out.rk HG4.out (fun k hk e => e.elim (fun e => own_apart HM3.out.rl HM3.out.rk (by decide) e hk) (fun e => by have := (World.ownsRow.lt HM3.out.rk k hk).2; omega)))
          have HR4 := Lib.hid (own_on HR3.out HG4.out (fun k hk e => e.elim (fun e => own_apart HM3.out.rl HR3.out (by decide) e hk) (fun e => by have := (World.ownsRow.lt HR3.out k hk).2; omega)))
          clear o0 o1 o2
          obtain ⟨p0, p1⟩ := HX4.out.pair
          have HBK : Hid (Blk (w4.alloc (.cells #[.slice none 0 0, .int .i64 (2 + (j : Int))] 87)) w4.heap.size 87 [.slice none 0 0, .int .i64 (2 + (j : Int))]) := Lib.hid (Blk.new w4 _ _)
          go_wp2_with (at_builtin; go_loud (refine wpList_append_at rfl (.tmp 72) (.tmp 74) 61 rfl w.heap.size 87 i3 zK 2 32 Try.underlying61 HI3.out.1 HI3.out.2.1 HI3.out.2.2.1 HI3.out.2.2.2 (by rfl) (by omega) (.slice KA j kc) j CK rfl (World.ownsRow.alloc (own_cast HK4.out (leafKids_len many its j)) _) ⟨w4.heap.size, 0, none⟩ 1 1 [.slice none 0 0, .int .i64 (2 + (j : Int))] rfl rfl (fun j u hu => by rw [Addr.add_lit, HBK.out.cell, Nat.zero_add]; exact hu) (by simp [Value.oneCell']) (by simp only [maxLen]; omega) (by omega) (by have := HM3.out.on.size; have := HG4.out.size; simp; omega) ?_; intro v' w5 ho' hg' hat'; (obtain ⟨R3, t3, rfl, _⟩ := raw_of_own ho'); have HK5 := Lib.hid ho'; have HG5 := Lib.hid (grow_only hg'); have HAT5 := Lib.hid (hat_new hat'); clear ho' hg' hat'))
          have HMN := Lib.hid (leaf_round HM.out HO3.out HL4.out HG4.out HAT4.out HK4.out HR4.out HK5.out HG5.out HAT5.out (by rw [HCE.out]; rfl) (by rw [HCE.out]; rfl) (by rw [HCE.out]; rfl) rfl (Src.nil_ w))
          have HJN : Hid (j + 1 ≤ 1 ∨ (j + 1 - 1) * many < 0) := Lib.hid (.inl (by have := HJ0.out; omega))
          have HAN : Hid (0 + many = (j + 1) * many) := Lib.hid (by rw [HA.out, Nat.succ_mul])
          have hj0 := HJ0.out
          go_roundg (0 + 1 - (j + 1))
          case measure => omega
          case rel => exact ⟨j + 1, 0 + many, R2, t2, R3, t3, _, _, rfl, by omega, by omega, rfl, rfl, by go_num, by go_num, HAN, HJN, HMN⟩
      · have ha0' : ¬ (a : Int) = 0 := by omega
        have hj1 : 1 ≤ j := by
          rcases Nat.eq_zero_or_pos j with h | h
          · have h1 := HA.out
            rw [h, Nat.zero_mul] at h1
            exact absurd h1 ha0
          · exact h
        have HIN : Hid (1 ≤ j ∧ its.length ≤ j * many ∧ (j ≤ 1 ∨ (j - 1) * many < its.length)) := Lib.hid ⟨hj1, by rw [← HA.out, ← HNI.out]; omega, by rw [← HNI.out]; exact HJL.out⟩
        subst hw0
        go_upto_region 18 with (fail)
        go_loopg [8, 9, 10] (j + 1) (fun gk vl vk nx wr => ∃ (nl nk : Nat) (LA : Option Addr) (lc : Nat) (KA : Option Addr) (kc : Nat) (ls : List Nm) (ks : List Kd) (CL CK : List Value), gk = nk + 1 ∧ 1 ≤ nk ∧ nl + nk ≤ 3000 ∧ vl = .slice LA nl lc ∧ vk = .slice KA nk kc ∧ nx = .int .i64 (2 + (nl : Int)) ∧ Hid (nl = ls.length ∧ nk = ks.length) ∧ Hid (Lvs fan (leafsP many its j) (leafKidsP many its j) ls ks) ∧ Hid (MdI w wr (.slice LA nl lc) (.slice KA nk kc) ls ks CL CK))
        case atStart => exact ⟨j, j, LA, lc, KA, kc, _, _, CL, CK, rfl, hj1, by omega, rfl, rfl, rfl, Lib.hid ⟨(leafs_len many its j).symm, (leafKids_len many its j).symm⟩, Lib.hid .start, HM⟩
        case round =>
          clear HM HA HJL hj ha hc ha0 ha0' hc'
          obtain ⟨nl, nk, LA, lc, KA, kc, ls, ks, CL, CK, rfl, hk1, hnb, rfl, rfl, rfl, HLN, HLV, HM⟩ := hrel
          by_cases h1 : 1 < nk
          · have h1' : (1 : Int) < (nk : Int) := by omega
            obtain ⟨wS, hwS⟩ : ∃ x, x = wr := ⟨_, rfl⟩
            go_wp2_with (fail)
            subst hwS
            go_loopg [8, 10, 15, 16] nk (fun gk vl nx vab av wr => ∃ (a nm na : Nat) (LB : Option Addr) (lb : Nat) (KB : Option Addr) (kb : Nat) (ns : List Nm) (ab : List Kd) (CM CB : List Value), gk = nk - a ∧ a ≤ nk ∧ 2 * na ≤ a ∧ (a = 0 ∨ 1 ≤ na) ∧ (nm ≤ nl + na ∧ nl + na ≤ nm) ∧ (a = nk ∨ a + 2 ≤ nk) ∧ vl = .slice LB nm lb ∧ nx = .int .i64 (2 + (nm : Int)) ∧ vab = .slice KB na kb ∧ av = .int .i64 (a : Int) ∧ Hid (ns.length = na ∧ ab.length = na) ∧ Hid (Lvl fan ks (2 + (nl : Int)) a ns ab) ∧ Hid (MdI w wr (.slice LB nm lb) (.slice KB na kb) (ls ++ ns) ab CM CB) ∧ Hid (KidsIn w wS wr (.slice LB nm lb) (.slice KB na kb) (.slice KA nk kc) ks CK))
            case atStart => exact ⟨0, nl, 0, LA, lc, none, 0, [], [], CL, [], rfl, Nat.zero_le _, by omega, .inl rfl, by omega, .inr (by omega), rfl, rfl, rfl, rfl, Lib.hid ⟨rfl, rfl⟩, Lib.hid .start, Lib.hid (by rw [List.append_nil]; exact level_start HM.out), Lib.hid (kids_start HM.out)⟩
            case round =>
              obtain ⟨a, nm, na, LB, lb, KB, kb, ns, ab, CM, CB, rfl, han, hna, hn1, hnm, haa, rfl, rfl, rfl, rfl, HNL, HLL, HMM, HKI⟩ := hrel
              by_cases hlt : a < nk
              · have hlt' : (a : Int) < (nk : Int) := by omega
                obtain ⟨T, hT⟩ : ∃ T, T = cutTo fan nk a := ⟨_, rfl⟩
                have HT := Lib.hid hT
                have hTb : a + 2 ≤ T ∧ T ≤ nk ∧ (T = nk ∨ T + 2 ≤ nk) := by
                  rw [hT]
                  unfold cutTo
                  split <;> omega
                have hkc : nk ≤ kc ∧ kc ≤ 9223372036854775807 := by
                  obtain ⟨A', c', e, _, _, h5, h6, _⟩ := raw_of_own HKI.out.rk
                  cases e
                  rw [← HLN.out.2] at h5
                  exact ⟨h5, h6⟩
                clear hT
                by_cases hto : nk ≤ a + fan + 1
                · have hto' : (nk : Int) ≤ (a : Int) + (fan : Int) + 1 := by omega
                  have HTE : Hid (T = nk) := Lib.hid (by rw [HT.out]; unfold cutTo; rw [if_pos hto])
                  go_upto_region 25 with (fail)
                  obtain rfl : T = nk := HTE.out
                  clear hto hto'
                  have HRK := Lib.hid (own_cast HKI.out.rk HLN.out.2.symm)
                  obtain ⟨kg, kc', e, _⟩ := own_form HRK.out (show 0 < T by omega)
                  cases e
                  have HKC : Hid (∀ i u, CK[i]? = some u → wr.cell? ⟨kg, i, none⟩ = some u) := Lib.hid (own_cells HRK.out)
                  have HCL : Hid (CK.length = T * 2) := Lib.hid HRK.out.1
                  have HC1 : Hid (∀ u ∈ CK, u.oneCell' = true) := Lib.hid (den_kids HKI.out.dk)
                  have hta : (a : Int) ≤ (T : Int) := by omega
                  have htk : (T : Int) ≤ (kc : Int) := by omega
                  go_upto_region 26 with (at_builtin; go_loud (refine wpList_append_at rfl (.tmp 95) (.tmp 99) 61 rfl wr.heap.size 87 i3 zK 2 32 Try.underlying61 HI3.out.1 HI3.out.2.1 HI3.out.2.2.1 HI3.out.2.2.2 (by rfl) (by omega) (.slice (some ⟨wr.heap.size, 0, none⟩) 0 0) 0 [] rfl (own_zero wr) ⟨kg, a * 2, none⟩ (T - a) (kc - a) ((CK.drop (a * 2)).take ((T - a) * 2)) rfl (grp_len HCL.out (by omega) (by omega)) (fun j u hu => by rw [Addr.add_lit]; exact cell_later (grp_cell HKC.out hu) ((Only.refl _ wr).alloc (fun _ h => h) _)) (fun u hu => HC1.out u (List.mem_of_mem_drop (List.mem_of_mem_take hu))) (by simp only [maxLen]; omega) (by omega) (by simp) ?_; intro v' w4 ho' hg' hat'; (obtain ⟨R2, t2, rfl, _⟩ := raw_of_own ho'); have HR4 := Lib.hid ho'; have HG4 := Lib.hid (grow_only hg'); clear ho' hg' hat'))
                  obtain ⟨m, hm⟩ : ∃ m, m = T - a := ⟨_, rfl⟩
                  obtain ⟨C4, hC4⟩ : ∃ C, C = (CK.drop (a * 2)).take ((T - a) * 2) := ⟨_, rfl⟩
                  rw [← hm]
                  have HMT : Hid (m = T - a) := Lib.hid hm
                  have hm2 : 2 ≤ m := by omega
                  have hmb : m ≤ 3000 := by omega
                  have HR : Hid (w4.ownsRow wr.heap.size 87 2 (.slice R2 m t2) m C4) := Lib.hid (by rw [hC4, hm]; have h0 := HR4.out; rwa [Nat.zero_add, List.nil_append] at h0)
                  have HGD : Hid (Den (fun y cs => Stab (Fq (.slice LB nm lb) (.slice KB na kb)) wr (fun W => kdE.At W y cs)) (groupP fan ks a) C4) := Lib.hid (by
                    have h0 := group_den (fan := fan) (a := a) (fun _ _ h => kdE.len h.now) HKI.out.dk
                    rw [← HLN.out.2, ← HT.out] at h0
                    rw [hC4]
                    exact h0)
                  clear hC4 hm HR4
                  have HO4 : Hid (Only (wr.heap.size ≤ ·) wr w4) := Lib.hid (HG4.out.mono fun k hk => hk.elim (fun e => Nat.le_of_eq (Option.some.inj e)) fun h => h)
                  clear HG4
                  have HML : Hid (m = (groupP fan ks a).length) := Lib.hid (by
                    have h1 := HR.out.1
                    have h2 := Den.length (fun _ _ h => kdE.len h.now) HGD.out
                    rw [h2] at h1
                    simp [kdE] at h1
                    omega)
                  obtain ⟨key, ref, rr, P, p, D, hgr, hC4, hst, hdr⟩ := group_head (by rw [← HML.out]; omega) HGD.out
                  obtain ⟨yk, hyk⟩ : ∃ z, z = key.length := ⟨_, rfl⟩
                  rw [← hyk] at hC4 hst
                  have HYK := Lib.hid hyk
                  have HST := Lib.hid hst
                  have HDR := Lib.hid hdr
                  have HGR := Lib.hid hgr
                  have HC4 := Lib.hid hC4
                  clear hyk hst hdr hgr hC4
                  obtain ⟨g, t', e, _⟩ := own_form HR.out (show 0 < m by omega)
                  cases e
                  obtain ⟨w5, hw5⟩ : ∃ x, x = w4.alloc (.cells #[.bool false, .slice none 0 0, .slice (some ⟨g, 0, none⟩) m t2] 63) := ⟨_, rfl⟩
                  obtain ⟨b18, hb18⟩ : ∃ x, x = w4.heap.size := ⟨_, rfl⟩
                  have Hb18 : Hid (Blk w5 b18 63 [.bool false, .slice none 0 0, .slice (some ⟨g, 0, none⟩) m t2]) := Lib.hid (by rw [hw5, hb18]; exact Blk.new w4 _ [.bool false, .slice none 0 0, .slice (some ⟨g, 0, none⟩) m t2])
                  have HXb18 : Hid (Only (w4.heap.size ≤ ·) w4 w5) := Lib.hid (by rw [hw5]; exact (Only.refl _ w4).alloc (fun _ h => h) _)
                  have HEQb18 : Hid (w5 = w4.alloc (.cells #[.bool false, .slice none 0 0, .slice (some ⟨g, 0, none⟩) m t2] 63) ∧ b18 = w4.heap.size) := Lib.hid ⟨hw5, hb18⟩
                  clear hw5 hb18
                  have HO5 := Lib.hid (on_new HO4.out HXb18.out)
                  have HR5 := Lib.hid (own_later HR.out HXb18.out)
                  have c0 : w5.cell? ⟨g, 0, none⟩ = some (.slice P yk p) := own_cells HR5.out 0 _ (by rw [HC4.out]; rfl)
                  have HK5 := Lib.hid (own_cast (own_later HMM.out.rk HO5.out) HNL.out.2)
                  rw [← HEQb18.out.1, ← HEQb18.out.2]
                  obtain ⟨o0, o1, o2⟩ := Hb18.out.tri
                  have hm0 : (0 : Int) < (m : Int) := by omega
                  have HBK : Hid (Blk (w5.alloc (.cells #[.slice P yk p, .int .i64 (2 + (nm : Int))] 87)) w5.heap.size 87 [.slice P yk p, .int .i64 (2 + (nm : Int))]) := Lib.hid (Blk.new w5 _ _)
                  go_upto_region 27 with (at_builtin; go_loud (refine wpList_append_at rfl (.tmp 102) (.tmp 110) 61 rfl w.heap.size 87 i3 zK 2 32 Try.underlying61 HI3.out.1 HI3.out.2.1 HI3.out.2.2.1 HI3.out.2.2.2 (by rfl) (by omega) (.slice KB na kb) na CB rfl (World.ownsRow.alloc HK5.out _) ⟨w5.heap.size, 0, none⟩ 1 1 [.slice P yk p, .int .i64 (2 + (nm : Int))] rfl rfl (fun j u hu => by rw [Addr.add_lit, HBK.out.cell, Nat.zero_add]; exact hu) (by simp [Value.oneCell']) (by simp only [maxLen]; omega) (by omega) (by have h1 := HMM.out.on.size; have h2 := HO5.out.size; simp; omega) ?_; intro v' w6 ho' hg' hat'; (obtain ⟨R3, t3, rfl, _⟩ := raw_of_own ho'); have HK6 := Lib.hid ho'; have HG6 := Lib.hid (grow_only hg'); have HAT6 := Lib.hid (hat_new hat'); clear ho' hg' hat'))
                  clear o0 o1 o2 c0
                  have HGB : Hid (wr.heap.size ≤ g ∧ g < w5.heap.size) := Lib.hid (World.ownsRow.lt HR5.out g rfl)
                  have HX6 := Lib.hid (Hb18.out.only HG6.out (fun e => e.elim (fun e => own_ne HK5.out Hb18.out (by decide) e) (fun e => by have := Hb18.out.lt; omega)))
                  have HR6 := Lib.hid (own_on HR5.out HG6.out (fun k hk e => by
                    have hk' : g = k := Option.some.inj hk
                    have h2 := HGB.out
                    rcases e with e | e
                    · have := (World.ownsRow.lt HMM.out.rk _ e).2
                      omega
                    · omega))
                  obtain ⟨⟨y0, hc0⟩, hf0⟩ := own_at0 HR6.out (show 0 < m by omega)
                  obtain ⟨o0, o1, o2⟩ := HX6.out.tri
                  go_upto_region 28 with (fail)
                  obtain ⟨w7, hw7⟩ : ∃ x, x = w6.setCell ⟨g, 0, none⟩ (.slice none 0 0) := ⟨_, rfl⟩
                  have HS7 : Hid (Only (· = g) w6 w7) := Lib.hid (by rw [hw7]; exact (Only.refl (· = g) w6).setCell (p := ⟨g, 0, none⟩) rfl _)
                  have HR7 : Hid (w7.ownsRow wr.heap.size 87 2 (.slice (some ⟨g, 0, none⟩) m t2) m (C4.set 0 (.slice none 0 0))) := Lib.hid (by rw [hw7]; exact (HR6.out.stored 0 (.slice none 0 0)).1)
                  rw [← hw7]
                  clear hw7 o0 o1 o2 hc0 hf0
                  have HX7 := Lib.hid (HX6.out.only HS7.out (fun e => own_ne HR6.out HX6.out (by decide) (by rw [show b18 = g from e]; rfl)))
                  have HK7 := Lib.hid (own_on HK6.out HS7.out (fun k hk e => by
                    have h2 := HGB.out
                    rw [show k = g from e] at hk
                    rcases HAT6.out with q | ⟨c, q, hc⟩
                    · have := (World.ownsRow.lt HMM.out.rk g (q ▸ hk)).2
                      omega
                    · rw [q] at hk
                      cases hk
                      omega))
                  have HO7 : Hid (Only (fun k => (Value.slice KB na kb).ownBlock = some k ∨ wr.heap.size ≤ k) wr w7) := Lib.hid (((HO5.out.mono fun k hk => .inr hk).trans (HG6.out.mono fun k hk => hk.imp (fun h => h) fun h => by have := HO5.out.size; omega)).trans (HS7.out.mono fun k hk => .inr (by rw [show k = g from hk]; exact HGB.out.1)))
                  have HL7 := Lib.hid (own_cast (n' := nm) (own_on HMM.out.rl HO7.out (fun k hk e => e.elim (fun e => own_apart HMM.out.rk HMM.out.rl (by decide) e hk) (fun e => by have := (World.ownsRow.lt HMM.out.rl k hk).2; omega))) (by rw [List.length_append, HNL.out.1, ← HLN.out.1]; omega))
                  obtain ⟨o0, o1, o2⟩ := HX7.out.tri
                  have HBN : Hid (Blk (w7.alloc (.cells #[.int .i64 (2 + (nm : Int)), .bool false, .slice none 0 0, .slice (some ⟨g, 0, none⟩) m t2] 65)) w7.heap.size 65 [.int .i64 (2 + (nm : Int)), .bool false, .slice none 0 0, .slice (some ⟨g, 0, none⟩) m t2]) := Lib.hid (Blk.new w7 _ _)
                  go_wp2_with (at_builtin; go_loud (refine wpList_append_at rfl (.tmp 116) (.tmp 120) 22 rfl w.heap.size 65 i2 zN 4 64 Try.underlying22 HI2.out.1 HI2.out.2.1 HI2.out.2.2.1 HI2.out.2.2.2 (by rfl) (by omega) (.slice LB nm lb) nm CM rfl (World.ownsRow.alloc HL7.out _) ⟨w7.heap.size, 0, none⟩ 1 1 [.int .i64 (2 + (nm : Int)), .bool false, .slice none 0 0, .slice (some ⟨g, 0, none⟩) m t2] rfl rfl (fun j u hu => by rw [Addr.add_lit, HBN.out.cell, Nat.zero_add]; exact hu) (by simp [Value.oneCell']) (by simp only [maxLen]; omega) (by omega) (by have h1 := HMM.out.on.size; have h2 := HO7.out.size; simp; omega) ?_; intro v' w8 ho' hg' hat'; (obtain ⟨R8, t8, rfl, _⟩ := raw_of_own ho'); have HL8 := Lib.hid ho'; have HG8 := Lib.hid (grow_only hg'); have HAT8 := Lib.hid (hat_new hat'); clear ho' hg' hat'))
                  have HMN := Lib.hid (group_round HMM.out HKI.out HO5.out HR5.out HG6.out HAT6.out HS7.out HR7.out HK7.out HG8.out HAT8.out HL8.out (by rw [List.length_append, HNL.out.1, ← HLN.out.1]; omega) HNL.out.2.symm HC4.out HYK.out (by rw [HML.out, HGR.out]) HST.out HDR.out)
                  have HLS : Hid (Lvl fan ks (2 + (nl : Int)) T (ns ++ [(2 + (nm : Int), ⟨false, [], ([], ref) :: rr⟩)]) (ab ++ [(key, 2 + (nm : Int))])) := Lib.hid (by
                    have h0 := HLL.out.step (by rw [← HLN.out.2]; exact hlt)
                    rw [← HLN.out.2, ← HT.out, HGR.out, show 2 + (nl : Int) + (ns.length : Int) = 2 + (nm : Int) by rw [HNL.out.1]; omega] at h0
                    exact h0)
                  go_roundg (T - T)
                  case measure => omega
                  case rel => exact ⟨T, nm + 1, na + 1, R8, t8, R3, t3, _, _, _, _, rfl, by omega, by omega, .inr (by omega), by omega, by omega, rfl, by go_num, rfl, rfl, Lib.hid ⟨by rw [List.length_append, HNL.out.1]; rfl, by rw [List.length_append, HNL.out.2]; rfl⟩, HLS, Lib.hid (by rw [← List.append_assoc]; exact HMN.out.1), Lib.hid HMN.out.2⟩
                · have hto' : ¬ (nk : Int) ≤ (a : Int) + (fan : Int) + 1 := by omega
                  have HTE : Hid (T = a + fan) := Lib.hid (by rw [HT.out]; unfold cutTo; rw [if_neg hto])
                  go_upto_region 25 with (fail)
                  rw [show ((a : Int) + (fan : Int)) = (T : Int) by rw [HTE.out]; rfl]
                  clear hto hto'
                  have HRK := Lib.hid (own_cast HKI.out.rk HLN.out.2.symm)
                  obtain ⟨kg, kc', e, _⟩ := own_form HRK.out (show 0 < nk by omega)
                  cases e
                  have HKC : Hid (∀ i u, CK[i]? = some u → wr.cell? ⟨kg, i, none⟩ = some u) := Lib.hid (own_cells HRK.out)
                  have HCL : Hid (CK.length = nk * 2) := Lib.hid HRK.out.1
                  have HC1 : Hid (∀ u ∈ CK, u.oneCell' = true) := Lib.hid (den_kids HKI.out.dk)
                  have hta : (a : Int) ≤ (T : Int) := by omega
                  have htk : (T : Int) ≤ (kc : Int) := by omega
                  go_upto_region 26 with (at_builtin; go_loud (refine wpList_append_at rfl (.tmp 95) (.tmp 99) 61 rfl wr.heap.size 87 i3 zK 2 32 Try.underlying61 HI3.out.1 HI3.out.2.1 HI3.out.2.2.1 HI3.out.2.2.2 (by rfl) (by omega) (.slice (some ⟨wr.heap.size, 0, none⟩) 0 0) 0 [] rfl (own_zero wr) ⟨kg, a * 2, none⟩ (T - a) (kc - a) ((CK.drop (a * 2)).take ((T - a) * 2)) rfl (grp_len HCL.out (by omega) (by omega)) (fun j u hu => by rw [Addr.add_lit]; exact cell_later (grp_cell HKC.out hu) ((Only.refl _ wr).alloc (fun _ h => h) _)) (fun u hu => HC1.out u (List.mem_of_mem_drop (List.mem_of_mem_take hu))) (by simp only [maxLen]; omega) (by omega) (by simp) ?_; intro v' w4 ho' hg' hat'; (obtain ⟨R2, t2, rfl, _⟩ := raw_of_own ho'); have HR4 := Lib.hid ho'; have HG4 := Lib.hid (grow_only hg'); clear ho' hg' hat'))
                  obtain ⟨m, hm⟩ : ∃ m, m = T - a := ⟨_, rfl⟩
                  obtain ⟨C4, hC4⟩ : ∃ C, C = (CK.drop (a * 2)).take ((T - a) * 2) := ⟨_, rfl⟩
                  rw [← hm]
                  have HMT : Hid (m = T - a) := Lib.hid hm
                  have hm2 : 2 ≤ m := by omega
                  have hmb : m ≤ 3000 := by omega
                  have HR : Hid (w4.ownsRow wr.heap.size 87 2 (.slice R2 m t2) m C4) := Lib.hid (by rw [hC4, hm]; have h0 := HR4.out; rwa [Nat.zero_add, List.nil_append] at h0)
                  have HGD : Hid (Den (fun y cs => Stab (Fq (.slice LB nm lb) (.slice KB na kb)) wr (fun W => kdE.At W y cs)) (groupP fan ks a) C4) := Lib.hid (by
                    have h0 := group_den (fan := fan) (a := a) (fun _ _ h => kdE.len h.now) HKI.out.dk
                    rw [← HLN.out.2, ← HT.out] at h0
                    rw [hC4]
                    exact h0)
                  clear hC4 hm HR4
                  have HO4 : Hid (Only (wr.heap.size ≤ ·) wr w4) := Lib.hid (HG4.out.mono fun k hk => hk.elim (fun e => Nat.le_of_eq (Option.some.inj e)) fun h => h)
                  clear HG4
                  have HML : Hid (m = (groupP fan ks a).length) := Lib.hid (by
                    have h1 := HR.out.1
                    have h2 := Den.length (fun _ _ h => kdE.len h.now) HGD.out
                    rw [h2] at h1
                    simp [kdE] at h1
                    omega)
                  obtain ⟨key, ref, rr, P, p, D, hgr, hC4, hst, hdr⟩ := group_head (by rw [← HML.out]; omega) HGD.out
                  obtain ⟨yk, hyk⟩ : ∃ z, z = key.length := ⟨_, rfl⟩
                  rw [← hyk] at hC4 hst
                  have HYK := Lib.hid hyk
                  have HST := Lib.hid hst
                  have HDR := Lib.hid hdr
                  have HGR := Lib.hid hgr
                  have HC4 := Lib.hid hC4
                  clear hyk hst hdr hgr hC4
                  obtain ⟨g, t', e, _⟩ := own_form HR.out (show 0 < m by omega)
                  cases e
                  obtain ⟨w5, hw5⟩ : ∃ x, x = w4.alloc (.cells #[.bool false, .slice none 0 0, .slice (some ⟨g, 0, none⟩) m t2] 63) := ⟨_, rfl⟩
                  obtain ⟨b18, hb18⟩ : ∃ x, x = w4.heap.size := ⟨_, rfl⟩
                  have Hb18 : Hid (Blk w5 b18 63 [.bool false, .slice none 0 0, .slice (some ⟨g, 0, none⟩) m t2]) := Lib.hid (by rw [hw5, hb18]; exact Blk.new w4 _ [.bool false, .slice none 0 0, .slice (some ⟨g, 0, none⟩) m t2])
                  have HXb18 : Hid (Only (w4.heap.size ≤ ·) w4 w5) := Lib.hid (by rw [hw5]; exact (Only.refl _ w4).alloc (fun _ h => h) _)
                  have HEQb18 : Hid (w5 = w4.alloc (.cells #[.bool false, .slice none 0 0, .slice (some ⟨g, 0, none⟩) m t2] 63) ∧ b18 = w4.heap.size) := Lib.hid ⟨hw5, hb18⟩
                  clear hw5 hb18
                  have HO5 := Lib.hid (on_new HO4.out HXb18.out)
                  have HR5 := Lib.hid (own_later HR.out HXb18.out)
                  have c0 : w5.cell? ⟨g, 0, none⟩ = some (.slice P yk p) := own_cells HR5.out 0 _ (by rw [HC4.out]; rfl)
                  have HK5 := Lib.hid (own_cast (own_later HMM.out.rk HO5.out) HNL.out.2)
                  rw [← HEQb18.out.1, ← HEQb18.out.2]
                  obtain ⟨o0, o1, o2⟩ := Hb18.out.tri
                  have hm0 : (0 : Int) < (m : Int) := by omega
                  have HBK : Hid (Blk (w5.alloc (.cells #[.slice P yk p, .int .i64 (2 + (nm : Int))] 87)) w5.heap.size 87 [.slice P yk p, .int .i64 (2 + (nm : Int))]) := Lib.hid (Blk.new w5 _ _)
                  go_upto_region 27 with (at_builtin; go_loud (refine wpList_append_at rfl (.tmp 102) (.tmp 110) 61 rfl w.heap.size 87 i3 zK 2 32 Try.underlying61 HI3.out.1 HI3.out.2.1 HI3.out.2.2.1 HI3.out.2.2.2 (by rfl) (by omega) (.slice KB na kb) na CB rfl (World.ownsRow.alloc HK5.out _) ⟨w5.heap.size, 0, none⟩ 1 1 [.slice P yk p, .int .i64 (2 + (nm : Int))] rfl rfl (fun j u hu => by rw [Addr.add_lit, HBK.out.cell, Nat.zero_add]; exact hu) (by simp [Value.oneCell']) (by simp only [maxLen]; omega) (by omega) (by have h1 := HMM.out.on.size; have h2 := HO5.out.size; simp; omega) ?_; intro v' w6 ho' hg' hat'; (obtain ⟨R3, t3, rfl, _⟩ := raw_of_own ho'); have HK6 := Lib.hid ho'; have HG6 := Lib.hid (grow_only hg'); have HAT6 := Lib.hid (hat_new hat'); clear ho' hg' hat'))
                  clear o0 o1 o2 c0
                  have HGB : Hid (wr.heap.size ≤ g ∧ g < w5.heap.size) := Lib.hid (World.ownsRow.lt HR5.out g rfl)
                  have HX6 := Lib.hid (Hb18.out.only HG6.out (fun e => e.elim (fun e => own_ne HK5.out Hb18.out (by decide) e) (fun e => by have := Hb18.out.lt; omega)))
                  have HR6 := Lib.hid (own_on HR5.out HG6.out (fun k hk e => by
                    have hk' : g = k := Option.some.inj hk
                    have h2 := HGB.out
                    rcases e with e | e
                    · have := (World.ownsRow.lt HMM.out.rk _ e).2
                      omega
                    · omega))
                  obtain ⟨⟨y0, hc0⟩, hf0⟩ := own_at0 HR6.out (show 0 < m by omega)
                  obtain ⟨o0, o1, o2⟩ := HX6.out.tri
                  go_upto_region 28 with (fail)
                  obtain ⟨w7, hw7⟩ : ∃ x, x = w6.setCell ⟨g, 0, none⟩ (.slice none 0 0) := ⟨_, rfl⟩
                  have HS7 : Hid (Only (· = g) w6 w7) := Lib.hid (by rw [hw7]; exact (Only.refl (· = g) w6).setCell (p := ⟨g, 0, none⟩) rfl _)
                  have HR7 : Hid (w7.ownsRow wr.heap.size 87 2 (.slice (some ⟨g, 0, none⟩) m t2) m (C4.set 0 (.slice none 0 0))) := Lib.hid (by rw [hw7]; exact (HR6.out.stored 0 (.slice none 0 0)).1)
                  rw [← hw7]
                  clear hw7 o0 o1 o2 hc0 hf0
                  have HX7 := Lib.hid (HX6.out.only HS7.out (fun e => own_ne HR6.out HX6.out (by decide) (by rw [show b18 = g from e]; rfl)))
                  have HK7 := Lib.hid (own_on HK6.out HS7.out (fun k hk e => by
                    have h2 := HGB.out
                    rw [show k = g from e] at hk
                    rcases HAT6.out with q | ⟨c, q, hc⟩
                    · have := (World.ownsRow.lt HMM.out.rk g (q ▸ hk)).2
                      omega
                    · rw [q] at hk
                      cases hk
                      omega))
                  have HO7 : Hid (Only (fun k => (Value.slice KB na kb).ownBlock = some k ∨ wr.heap.size ≤ k) wr w7) := Lib.hid (((HO5.out.mono fun k hk => .inr hk).trans (HG6.out.mono fun k hk => hk.imp (fun h => h) fun h => by have := HO5.out.size; omega)).trans (HS7.out.mono fun k hk => .inr (by rw [show k = g from hk]; exact HGB.out.1)))
                  have HL7 := Lib.hid (own_cast (n' := nm) (own_on HMM.out.rl HO7.out (fun k hk e => e.elim (fun e => own_apart HMM.out.rk HMM.out.rl (by decide) e hk) (fun e => by have := (World.ownsRow.lt HMM.out.rl k hk).2; omega))) (by rw [List.length_append, HNL.out.1, ← HLN.out.1]; omega))
                  obtain ⟨o0, o1, o2⟩ := HX7.out.tri
                  have HBN : Hid (Blk (w7.alloc (.cells #[.int .i64 (2 + (nm : Int)), .bool false, .slice none 0 0, .slice (some ⟨g, 0, none⟩) m t2] 65)) w7.heap.size 65 [.int .i64 (2 + (nm : Int)), .bool false, .slice none 0 0, .slice (some ⟨g, 0, none⟩) m t2]) := Lib.hid (Blk.new w7 _ _)
                  go_wp2_with (at_builtin; go_loud (refine wpList_append_at rfl (.tmp 116) (.tmp 120) 22 rfl w.heap.size 65 i2 zN 4 64 Try.underlying22 HI2.out.1 HI2.out.2.1 HI2.out.2.2.1 HI2.out.2.2.2 (by rfl) (by omega) (.slice LB nm lb) nm CM rfl (World.ownsRow.alloc HL7.out _) ⟨w7.heap.size, 0, none⟩ 1 1 [.int .i64 (2 + (nm : Int)), .bool false, .slice none 0 0, .slice (some ⟨g, 0, none⟩) m t2] rfl rfl (fun j u hu => by rw [Addr.add_lit, HBN.out.cell, Nat.zero_add]; exact hu) (by simp [Value.oneCell']) (by simp only [maxLen]; omega) (by omega) (by have h1 := HMM.out.on.size; have h2 := HO7.out.size; simp; omega) ?_; intro v' w8 ho' hg' hat'; (obtain ⟨R8, t8, rfl, _⟩ := raw_of_own ho'); have HL8 := Lib.hid ho'; have HG8 := Lib.hid (grow_only hg'); have HAT8 := Lib.hid (hat_new hat'); clear ho' hg' hat'))
                  have HMN := Lib.hid (group_round HMM.out HKI.out HO5.out HR5.out HG6.out HAT6.out HS7.out HR7.out HK7.out HG8.out HAT8.out HL8.out (by rw [List.length_append, HNL.out.1, ← HLN.out.1]; omega) HNL.out.2.symm HC4.out HYK.out (by rw [HML.out, HGR.out]) HST.out HDR.out)
                  have HLS : Hid (Lvl fan ks (2 + (nl : Int)) T (ns ++ [(2 + (nm : Int), ⟨false, [], ([], ref) :: rr⟩)]) (ab ++ [(key, 2 + (nm : Int))])) := Lib.hid (by
                    have h0 := HLL.out.step (by rw [← HLN.out.2]; exact hlt)
                    rw [← HLN.out.2, ← HT.out, HGR.out, show 2 + (nl : Int) + (ns.length : Int) = 2 + (nm : Int) by rw [HNL.out.1]; omega] at h0
                    exact h0)
                  go_roundg (nk - T)
                  case measure => omega
                  case rel => exact ⟨T, nm + 1, na + 1, R8, t8, R3, t3, _, _, _, _, rfl, by omega, by omega, .inr (by omega), by omega, by omega, rfl, by go_num, rfl, rfl, Lib.hid ⟨by rw [List.length_append, HNL.out.1]; rfl, by rw [List.length_append, HNL.out.2]; rfl⟩, HLS, Lib.hid (by rw [← List.append_assoc]; exact HMN.out.1), Lib.hid HMN.out.2⟩
              · obtain rfl : a = nk := by omega
                have hkm : ¬ (a : Int) < (a : Int) := by omega
                go_wp2_with (fail)
                go_roundg (na + 1)
                case measure => omega
                case rel => exact ⟨nm, na, LB, lb, KB, kb, ls ++ ns, ab, CM, CB, rfl, by omega, by omega, rfl, rfl, rfl, Lib.hid ⟨by rw [List.length_append, HNL.out.1, ← HLN.out.1]; omega, HNL.out.2.symm⟩, Lib.hid (.step HLV.out (by rw [← HLN.out.2]; exact h1) (by rw [← HLN.out.1, ← HLN.out.2]; exact HLL.out)), HMM⟩
          · obtain rfl : nk = 1 := by omega
            have HRK := Lib.hid (own_cast HM.out.rk HLN.out.2.symm)
            obtain ⟨kg, kc', e, _⟩ := own_form HRK.out (show 0 < 1 by omega)
            cases e
            obtain ⟨key, ref, rr, P, p, D, hks, hck, _, _⟩ := group_head (by rw [← HLN.out.2]; omega) HM.out.dk
            have hrr : rr = [] := by
              have h0 := HLN.out.2
              rw [hks] at h0
              simpa using h0
            have c1 : wr.cell? ⟨kg, 1, none⟩ = some (.int .i64 ref) := own_cells HRK.out 1 _ (by rw [hck]; rfl)
            have HMF : Hid (IsMade its many fan ls ref) := Lib.hid ⟨j, (key, ref), HIN.out.1, HIN.out.2.1, HIN.out.2.2, by have h0 := HLV.out; rwa [hks, hrr] at h0, rfl⟩
            clear hks hck hrr
            go_upto_region 32 with (fail)
            go_quiet (fail)
            go_wp2_with (fail)
            go_ret2
            have HMQ := HM.out.later ((Only.refl (wr.heap.size ≤ ·) wr).drewN nq)
            exact ⟨⟨_, _, _, _, ls, rfl, HMF.out, by have := HLN.out.1; omega, HMQ.nms⟩, HMQ.on⟩
end Go.Proofs.Ytnjhpjpeeehagaa
