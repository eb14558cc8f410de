/-
  PagerAgain: the main walk.
-/
import Derived.Test.YtopaponemjaenaaDoorPgj
set_option linter.unusedVariables false
namespace Go.Proofs.YtopaponemjaenaaDoor
open Go.RowKit

section
variable {P : Program} {w : World}
theorem wpList_append_row {ops : Array Oper} {rest : List Oper} {o : Oper} {a : Act} {Q : Exit → Act → World → Prop} (hgd : o.guard = none) (s x : Operand) (t : TypeId)
    (ho : o.op = .call { callee := .builtin .append, args := #[s, x], argTypes := #[t, t] })
    (base : Nat) (e : TypeId) (i : TypeInfo) (z : Value) (size bytes : Nat) (ht : P.underlying t = some (.slice e)) (hi : P.info? e = some i) (hz : i.zero = some z)
    (hsize : i.size = size) (hby : i.bytes = bytes) (hzs : z.cells.size = size) (hsz : 0 < size)
    (v : Value) (n : Nat) (xs : List Value) (hs : a.eval s = v) (hown : w.ownsRow base e size v n xs)
    (A : Option Addr) (m c : Nat) (news : List Value) (hx : a.eval x = .slice A m c) (hA : A = none → m = 0 ∧ c = 0) (hl : news.length = m * size) (hnews : ∀ ad, A = some ad → ∀ j u, news[j]? = some u → w.cell? (ad.add j) = some u) (h1 : ∀ u ∈ news, u.oneCell' = true)
    (h63 : n + m ≤ maxLen) (hbytes : (n + m) * bytes ≤ 140737488355328) (hbase : base ≤ w.heap.size)
    (h : ∀ v' w', w'.ownsRow base e size v' (n + m) (xs ++ news) → w.grownBy w' v.ownBlock → (v'.ownBlock = v.ownBlock ∨ v'.ownBlock = some w.heap.size) → wpList P ops Q rest (a.put o.dst v') w') : wpList P ops Q (o :: rest) a w :=
  wpList_plain hgd fun K hK => wp_append_row s x t ho base e i z size bytes ht hi hz hsize hby hzs hsz v n xs hs hown A m c news hx hA hl hnews h1 h63 hbytes hbase fun v' w' h2 h3 h5 => hK _ _ (h v' w' h2 h3 h5)
end
theorem grow_only {w w' : World} {o : Obj} {row : Option Nat} (h : (w.alloc o).grownBy w' row) : Only (fun k => row = some k ∨ w.heap.size ≤ k) w w' := ((Only.refl _ w).alloc (fun _ h => .inr h) o).grown h (fun _ h => .inr h) (fun _ e => .inl e)
theorem own_lit (w : World) (t : TypeId) (v : Value) : (w.alloc (.cells #[v] t)).ownsRow w.heap.size t 1 (.slice (some ⟨w.heap.size, 0, none⟩) 1 1) 1 [v] :=
  ⟨by simp, .inr ⟨w.heap.size, 1, #[v], rfl, Nat.le_refl _, heap_alloc_new w _, Nat.le_refl _, by decide, by simp, by simp⟩⟩
theorem cbo_one (l : List Bool) : ∀ u ∈ cbo l, u.oneCell' = true := fun u hu => by
  obtain ⟨x, _, rfl⟩ := List.mem_map.1 hu
  rfl
theorem den_bool (w : World) : ∀ l : List Bool, Den (boE.At w) l (cbo l)
  | [] => rfl
  | x :: r => ⟨[.bool x], cbo r, rfl, rfl, den_bool w r⟩
theorem boE_facts {w : World} {A : Option Addr} {n c : Nat} {kl : List Bool} (h : Rw boE w (.slice A n c) kl) : (A = none → n = 0 ∧ c = 0) ∧ (cbo kl).length = n * 1 ∧ ∀ ad, A = some ad → ∀ j u, (cbo kl)[j]? = some u → w.cell? (ad.add j) = some u := by
  have hl := h.len
  refine ⟨fun e => ?_, by rw [cbo_len, hl, Nat.mul_one], fun ad e j u hu => ?_⟩
  · obtain ⟨A', c', C, e1, hd, hr, h1, h2, h3⟩ := h
    simp only [Value.slice.injEq] at e1
    obtain ⟨e2, e3, e4⟩ := e1
    have h4 := h1 (by rw [← e2]; exact e)
    omega
  · unfold cbo at hu
    rw [List.getElem?_map, Option.map_eq_some_iff] at hu
    obtain ⟨y, hy, rfl⟩ := hu
    have hj := (List.getElem?_eq_some_iff.1 hy).1
    obtain ⟨b, off, x, cs, e', _, hx, hcs, hc⟩ := Rw.at_ (E := boE) (by decide) h (k := j) (by omega)
    rw [e] at e'
    simp only [Option.some.injEq] at e'
    subst e'
    rw [hy] at hx
    cases hx
    have hcs' : cs = [.bool y] := hcs
    have h3 : w.cell? ⟨b, off + j * 1 + 0, none⟩ = some (.bool y) := hc 0 (.bool y) (by rw [hcs']; rfl)
    rw [Nat.mul_one, Nat.add_zero] at h3
    rw [Addr.add_lit]
    exact h3
theorem own_bools {w : World} {B g n t : Nat} {kl : List Bool} (h : w.ownsRow B 4 1 (.slice (some ⟨g, 0, none⟩) (1 + n) t) (1 + n) ([.bool true] ++ cbo kl)) (hl : (cbo kl).length = n * 1) : Rw boE w (.slice (some ⟨g, 0, none⟩) (1 + n) t) (true :: kl) := by
  have hl2 : (true :: kl).length = 1 + n := by rw [List.length_cons, ← cbo_len kl, hl]; omega
  rw [← hl2] at h ⊢
  obtain ⟨A', c', e, hr, h2, h3, h4, _⟩ := raw_of_own h
  cases e
  exact RawV.rw_ rfl (den_bool w (true :: kl)) ⟨some ⟨g, 0, none⟩, t, rfl, h.1, hr, h2, h3, h4, Den.one (fun _ _ => boE.one) (den_bool w (true :: kl))⟩
theorem half_bound {a z : Int} (h : I64v a) (hz : Int.tdiv a 2 = z) : -9223372036854775808 ≤ z ∧ z ≤ 9223372036854775807 := by
  unfold I64v at h
  rcases Int.le_total 0 a with h1 | h1
  · rw [Int.tdiv_eq_ediv_of_nonneg h1] at hz
    omega
  · have h2 : Int.tdiv a 2 = - Int.tdiv (-a) 2 := by rw [Int.neg_tdiv, Int.neg_neg]
    rw [h2, Int.tdiv_eq_ediv_of_nonneg (by omega)] at hz
    omega
/-- The plain side of the law. -/
theorem again_all {g ph t : Int} {kx k1 : Nat} {r : Int} {N : Nat} {l : Int} {xs : Bytes} {n : Nat} {g' ph' t' r' : Int} {N' : Nat} {l' : Int} {ys : Bytes} {m : Nat} {ws vs : List Wt} {kl : List Bool} {fz hz : Int} (hk1 : k1 = kx + 1) (hfz : fz ≤ 9223372036854775807) (hhz : hz ≤ 9223372036854775807) (hn : n = xs.length) (hm : m = ys.length) (hK : 2 ≤ kx)
    (hf1 : fewP ws N' m = true) (hf2 : fewP vs N' m = true) (hf3 : fewP [] N n = true) (hq1 : pgRight (okM g' ph' t' k1 r' N' l' m) N' ws = true) (hq2 : pgRight (okM g ph t kx r N l n) N [] = true) (hq3 : pgRight (okM g ph t k1 r N l n) N vs = true) :
    ∃ d0 d1 d3 e1 e2, fmP (Dk.Dsk.load [] 400) (okM g ph t kx r N l n) N kx [] (encB [g, ph, t, (kx : Int) - 1, r, (N : Int), l] xs) (encB [g, ph, t, (kx : Int), r, (N : Int), l] xs) = (d0, 0)
      ∧ cmP (d0.arm fz) (okM g' ph' t' k1 r' N' l' m) N' k1 ws (encB [g', ph', t', (k1 : Int), r', (N' : Int), l'] ys) = (d1, e1) ∧ cmP ((d1.crash kl).arm hz) (okM g ph t k1 r N l n) N k1 vs (encB [g, ph, t, (k1 : Int), r, (N : Int), l] xs) = (d3, e2)
      ∧ Roomy (Dk.Dsk.load [] 400) (cost [] + 1000) ∧ Roomy (d0.arm fz) (cost ws + 1000) ∧ d1.row.length ≤ 4294967296 ∧ Roomy ((d1.crash kl).arm hz) (cost vs + 1000) ∧ d3.row.length ≤ 4294967296
      ∧ (e1 = 0 ∨ (e1 = 10 ∧ ∃ (G PH T X1 R0 P L : Int) (XS : Bytes) (S : Nat), nwP (d3.crash (true :: kl)) = ⟨[G, PH, T, X1, R0, P, L], XS, (S : Int), 92⟩
        ∧ ((e2 = 0 ∧ (decide ([G, PH, T, X1, R0, P, L] = [g, ph, t, (k1 : Int), r, (N : Int), l]) && decide (XS = xs)) = true)
          ∨ (e2 = 10 ∧ ((decide ([G, PH, T, X1, R0, P, L] = [g, ph, t, (kx : Int), r, (N : Int), l]) && decide (XS = xs)) = true ∨ (decide ([G, PH, T, X1, R0, P, L] = [g', ph', t', (k1 : Int), r', (N' : Int), l']) && decide (XS = ys)) = true ∨ (decide ([G, PH, T, X1, R0, P, L] = [g, ph, t, (k1 : Int), r, (N : Int), l]) && decide (XS = xs)) = true))))) := by
  subst hk1 hn hm
  have w1 := few_facts2 hf1
  have w2 := few_facts2 hf2
  have w3 := few_facts2 hf3
  obtain ⟨ho, _⟩ := right_facts hq2
  obtain ⟨hf, _⟩ := right_facts hq1
  obtain ⟨hnx, _⟩ := right_facts hq3
  have hom : okM g ph t ((kx - 1 : Nat) : Int) r N l xs.length = true := by
    have h1 := of_decide_eq_true ho
    refine decide_eq_true ?_
    unfold okP at h1 ⊢
    obtain ⟨a1, a2, a3, a4, a5, a6, a7⟩ := h1
    first
      | exact ⟨a1, a2, by omega, a4, a5, a6, a7⟩
      | exact ⟨a1, a2, by omega, by omega, a5, a6, a7⟩
      | exact ⟨a1, a2, a3, by omega, a5, a6, a7⟩
      | exact ⟨a1, a2, a3, a4, by omega, a6, a7⟩
  have e1 : ((kx : Int) - 1) = ((kx - 1 : Nat) : Int) := by omega
  obtain ⟨d0, e0, q0⟩ : ∃ d0 e0, fmP (Dk.Dsk.load [] 400) (okM g ph t kx r N l xs.length) N kx [] (encB [g, ph, t, (kx : Int) - 1, r, (N : Int), l] xs) (encB [g, ph, t, (kx : Int), r, (N : Int), l] xs) = (d0, e0) := ⟨_, _, rfl⟩
  obtain ⟨d1, e1', q1⟩ : ∃ d1 e1, cmP (d0.arm fz) (okM g' ph' t' (kx + 1 : Nat) r' N' l' ys.length) N' (kx + 1 : Nat) ws (encB [g', ph', t', ((kx + 1 : Nat) : Int), r', (N' : Int), l'] ys) = (d1, e1) := ⟨_, _, rfl⟩
  obtain ⟨d3, e2, q2⟩ : ∃ d3 e2, cmP ((d1.crash kl).arm hz) (okM g ph t (kx + 1 : Nat) r N l xs.length) N (kx + 1 : Nat) vs (encB [g, ph, t, ((kx + 1 : Nat) : Int), r, (N : Int), l] xs) = (d3, e2) := ⟨_, _, rfl⟩
  have q0' := q0
  rw [e1] at q0'
  obtain ⟨r1, r2, r3⟩ := again_go (o := ⟨g, ph, t, kx, r, N, l, xs⟩) (f := ⟨g', ph', t', kx + 1, r', N', l', ys⟩) (nx := ⟨g, ph, t, kx + 1, r, N, l, xs⟩) (om := ⟨g, ph, t, kx - 1, r, N, l, xs⟩) (kl2 := true :: kl) hfz hhz rfl rfl rfl rfl hK (by omega) (by omega) ho hf hnx hom hq2 q0' hq1 q1 hq3 q2
  subst r1
  have R0 : Roomy (Dk.Dsk.load [] 400) 100000 := by
    rw [load_zero]
    exact ⟨by show 0 + 100000 ≤ _; omega, by show 0 + 100000 ≤ _; omega⟩
  have ho0 : (Dk.Dsk.load [] 400).ops = 0 := by rw [load_zero]
  have R1 : Roomy (d0.arm fz) 100000 := Roomy.arm (roomy_done r2 (by rw [ho0]; omega) (by omega)) fz
  have c1 := cost_sum ws
  have c2 := cost_sum vs
  have lb1 : (encB [g', ph', t', ((kx + 1 : Nat) : Int), r', (N' : Int), l'] ys).length = 256 := (enc_back hf).2.2.2
  have lb2 : (encB [g, ph, t, ((kx + 1 : Nat) : Int), r, (N : Int), l] xs).length = 256 := (enc_back hnx).2.2.2
  have R2 : Roomy d1 50000 := by
    have h1 := Roomy.cm (ok := okM g' ph' t' (kx + 1 : Nat) r' N' l' ys.length) (N := (N' : Int)) (x := ((kx + 1 : Nat) : Int)) (ws := ws) lb1 (n := 50000) (R1.le (by omega))
    rw [q1] at h1
    exact h1
  have R3 : Roomy ((d1.crash kl).arm hz) 50000 := Roomy.arm (Roomy.crash R2 kl) hz
  have R4 : Roomy d3 1000 := by
    have h1 := Roomy.cm (ok := okM g ph t (kx + 1 : Nat) r N l xs.length) (N := (N : Int)) (x := ((kx + 1 : Nat) : Int)) (ws := vs) lb2 (n := 1000) (R3.le (by omega))
    rw [q2] at h1
    exact h1
  refine ⟨d0, d1, d3, e1', e2, q0, q1, q2, R0.le (by decide), R1.le (by omega), by have := R2.2; omega, R3.le (by omega), by have := R4.2; omega, ?_⟩
  have yes : ∀ (a : List Int) (b : Bytes), (decide (a = a) && decide (b = b)) = true := fun a b => by rw [decide_eq_true rfl, decide_eq_true rfl]; rfl
  rcases r3 with h | ⟨h, h2⟩
  · exact .inl h
  · right
    refine ⟨h, ?_⟩
    rcases h2 with ⟨h3, h4⟩ | ⟨h3, h4 | h4 | h4⟩
    · exact ⟨_, _, _, _, _, _, _, _, _, h4, .inl ⟨h3, yes _ _⟩⟩
    · exact ⟨_, _, _, _, _, _, _, _, _, h4, .inr ⟨h3, .inl (yes _ _)⟩⟩
    · exact ⟨_, _, _, _, _, _, _, _, _, h4, .inr ⟨h3, .inr (.inl (yes _ _))⟩⟩
    · exact ⟨_, _, _, _, _, _, _, _, _, h4, .inr ⟨h3, .inr (.inr (yes _ _))⟩⟩
set_option maxRecDepth 100000 in
set_option maxHeartbeats 51200000 in
theorem pagain_third (w : World) (hG : Gens w) (g ph t : Int) (kx : Nat) (r : Int) (N : Nat) (l : Int) (A : Option Addr) (n c : Nat) (IA : Option Addr) (im ic : Nat) (g' ph' t' x2 r' : Int) (N' : Nat) (l' : Int) (BA : Option Addr) (m e : Nat) (fz : Int) (KA : Option Addr) (kn kc : Nat) (RA : Option Addr) (rn rc : Nat) (ws : List Wt) (RB : Option Addr) (sn sc : Nat) (vs : List Wt) (h : Wts w (.slice RA rn rc) ws) (h' : Wts w (.slice RB sn sc) vs) (hsum : ∀ y ∈ ws, y.2.length ≤ 140737488355328) (hsum' : ∀ y ∈ vs, y.2.length ≤ 140737488355328) (hI : ∀ y ∈ ws, I64v y.1) (hI' : ∀ y ∈ vs, I64v y.1) (xs ys : Bytes) (kl : List Bool) (hs : Src w (.slice A n c) xs) (hne : n = xs.length) (hs' : Src w (.slice BA m e) ys) (hne' : m = ys.length) (hK : Rw boE w (.slice KA kn kc) kl) (hM : ∀ u ∈ [g, ph, t, (kx : Int), r, (N : Int), l], I64 u) (hM1 : ∀ u ∈ [g, ph, t, ((kx + 1 : Nat) : Int), r, (N : Int), l], I64 u) (hM2 : ∀ u ∈ [g', ph', t', ((kx + 1 : Nat) : Int), r', (N' : Int), l'], I64 u) (hfz : I64v fz) (hkx : kx + 1 ≤ 2147483647) (hx2' : 2 ≤ kx) (hkn : kn ≤ 200) (hfz' : fz ≤ 1000) (hf1 : fewP ws N' m = true) (hf2 : fewP vs N' m = true) (hf3 : fewP [] N n = true) (hq1 : pgRight (okM g' ph' t' (kx + 1 : Nat) r' N' l' m) N' ws = true) (hq2 : pgRight (okM g ph t kx r N l n) N [] = true) (hq3 : pgRight (okM g ph t (kx + 1 : Nat) r N l n) N vs = false) : Calls Tryd.prog 6 #[.agg #[.int .i64 g, .int .i64 ph, .int .i64 t, .int .i64 (kx : Nat), .int .i64 r, .int .i64 (N : Nat), .int .i64 l, .slice A n c], .agg #[.slice RA rn rc, .slice RB sn sc], .agg #[.slice IA im ic, .int .i64 g', .int .i64 ph', .int .i64 t', .int .i64 x2, .int .i64 r', .int .i64 (N' : Nat), .int .i64 l', .slice BA m e, .int .i64 fz, .slice KA kn kc]] w (Told w (.bool true)) := by
  obtain ⟨k1, hk1⟩ : ∃ z, z = kx + 1 := ⟨_, rfl⟩
  have hx2 : wrap64 ((kx : Int) + 1) = (k1 : Int) := by rw [IntWalk.wrap64_in _ (by omega)]; omega
  rw [← hk1] at hq1 hq3 hM1 hM2
  have HF10 : ∀ W, Only (w.heap.size ≤ ·) w W → Calls Tryd.prog 7 #[.slice RA rn rc, .agg #[.int .i64 g', .int .i64 ph', .int .i64 t', .int .i64 (k1 : Nat), .int .i64 r', .int .i64 (N' : Nat), .int .i64 l', .slice BA m e]] W (Told W (.bool true)) := fun W hW => by have h9 := Pgfew_w W g' ph' t' k1 r' N' l' BA m e RA rn rc ws (Rw.later h hW) hsum; rwa [hf1] at h9
  have HF20 : ∀ W, Only (w.heap.size ≤ ·) w W → Calls Tryd.prog 7 #[.slice RB sn sc, .agg #[.int .i64 g', .int .i64 ph', .int .i64 t', .int .i64 (k1 : Nat), .int .i64 r', .int .i64 (N' : Nat), .int .i64 l', .slice BA m e]] W (Told W (.bool true)) := fun W hW => by have h9 := Pgfew_w W g' ph' t' k1 r' N' l' BA m e RB sn sc vs (Rw.later h' hW) hsum'; rwa [hf2] at h9
  have HF30 : ∀ W, Only (w.heap.size ≤ ·) w W → Calls Tryd.prog 7 #[.slice none 0 0, .agg #[.int .i64 g, .int .i64 ph, .int .i64 t, .int .i64 (kx : Nat), .int .i64 r, .int .i64 (N : Nat), .int .i64 l, .slice A n c]] W (Told W (.bool true)) := fun W hW => by have h9 := Pgfew_w W g ph t kx r N l A n c none 0 0 [] (Rw.nil_ W) (fun y hy => nomatch hy); rwa [hf3] at h9
  have HR10 : ∀ W, Only (w.heap.size ≤ ·) w W → Calls Tryd.prog 8 #[.slice RA rn rc, .agg #[.int .i64 g', .int .i64 ph', .int .i64 t', .int .i64 (k1 : Nat), .int .i64 r', .int .i64 (N' : Nat), .int .i64 l', .slice BA m e]] W (Told W (.bool true)) := fun W hW => by have h9 := rPgRight_c W g' ph' t' k1 r' N' l' BA m e RA rn rc ws (Rw.later h hW) hI; rwa [hq1] at h9
  have HR20 : ∀ W, Only (w.heap.size ≤ ·) w W → Calls Tryd.prog 8 #[.slice none 0 0, .agg #[.int .i64 g, .int .i64 ph, .int .i64 t, .int .i64 (kx : Nat), .int .i64 r, .int .i64 (N : Nat), .int .i64 l, .slice A n c]] W (Told W (.bool true)) := fun W hW => by have h9 := rPgRight_c W g ph t kx r N l A n c none 0 0 [] (Rw.nil_ W) (fun y hy => nomatch hy); rwa [hq2] at h9
  have HR30 : ∀ W, Only (w.heap.size ≤ ·) w W → Calls Tryd.prog 8 #[.slice RB sn sc, .agg #[.int .i64 g, .int .i64 ph, .int .i64 t, .int .i64 (k1 : Nat), .int .i64 r, .int .i64 (N : Nat), .int .i64 l, .slice A n c]] W (Told W (.bool false)) := fun W hW => by have h9 := rPgRight_c W g ph t k1 r N l A n c RB sn sc vs (Rw.later h' hW) hI'; rwa [hq3] at h9
  have HAL0 : ∀ W, Only (w.heap.size ≤ ·) w W → Calls Tryd.prog 9 #[] W (Told W (.bool true)) := fun W hW => Pgalive_c W (hG.later hW)
  have HAL80 := HAL0
  have h1 : ¬ (kx : Int) < 2 := by omega
  have h2 : ¬ 200 < (kn : Int) := by omega
  have h3 : ¬ 1000 < fz := by omega
  clear h h' hsum hsum' hI hI' hG hf1 hf2 hf3 hq1 hq2 hq3 hs hs' hne hne' hK hM hM1 hM2 hfz hk1 hkx hx2' hfz'
  obtain ⟨w1, hw1⟩ : ∃ W0, W0 = w.alloc (.cells #[.int .i64 g, .int .i64 ph, .int .i64 t, .int .i64 (kx : Nat), .int .i64 r, .int .i64 (N : Nat), .int .i64 l, .slice A n c] 25) := ⟨_, rfl⟩
  obtain ⟨w2, hw2⟩ : ∃ W0, W0 = w1.alloc (.cells #[.slice RA rn rc, .slice RB sn sc] 49) := ⟨_, rfl⟩
  obtain ⟨w3, hw3⟩ : ∃ W0, W0 = w2.alloc (.cells #[.slice IA im ic, .int .i64 g', .int .i64 ph', .int .i64 t', .int .i64 x2, .int .i64 r', .int .i64 (N' : Nat), .int .i64 l', .slice BA m e, .int .i64 fz, .slice KA kn kc] 52) := ⟨_, rfl⟩
  have HO1 : Hid (Only (w.heap.size ≤ ·) w w1) := Lib.hid (by rw [hw1]; exact (Only.refl _ w).alloc (fun _ h => h) _)
  have HO2 : Hid (Only (w1.heap.size ≤ ·) w1 w2) := Lib.hid (by rw [hw2]; exact (Only.refl _ w1).alloc (fun _ h => h) _)
  have HO3 : Hid (Only (w2.heap.size ≤ ·) w2 w3) := Lib.hid (by rw [hw3]; exact (Only.refl _ w2).alloc (fun _ h => h) _)
  have HA1 : Hid (Blk w1 w.heap.size 25 [.int .i64 g, .int .i64 ph, .int .i64 t, .int .i64 (kx : Nat), .int .i64 r, .int .i64 (N : Nat), .int .i64 l, .slice A n c]) := Lib.hid (by rw [hw1]; exact Blk.new w 25 _)
  have HA2 : Hid (Blk w2 w.heap.size 25 [.int .i64 g, .int .i64 ph, .int .i64 t, .int .i64 (kx : Nat), .int .i64 r, .int .i64 (N : Nat), .int .i64 l, .slice A n c]) := Lib.hid (HA1.out.only HO2.out (Nat.not_le.2 HA1.out.lt))
  have HA : Hid (Blk w3.drew w.heap.size 25 [.int .i64 g, .int .i64 ph, .int .i64 t, .int .i64 (kx : Nat), .int .i64 r, .int .i64 (N : Nat), .int .i64 l, .slice A n c]) := Lib.hid (Blk.drew (HA2.out.only HO3.out (Nat.not_le.2 HA2.out.lt)))
  have HT2 : Hid (Blk w2 w1.heap.size 49 [.slice RA rn rc, .slice RB sn sc]) := Lib.hid (by rw [hw2]; exact Blk.new w1 49 _)
  have HT : Hid (Blk w3.drew w1.heap.size 49 [.slice RA rn rc, .slice RB sn sc]) := Lib.hid (Blk.drew (HT2.out.only HO3.out (Nat.not_le.2 HT2.out.lt)))
  have HC : Hid (Blk w3.drew w2.heap.size 52 [.slice IA im ic, .int .i64 g', .int .i64 ph', .int .i64 t', .int .i64 x2, .int .i64 r', .int .i64 (N' : Nat), .int .i64 l', .slice BA m e, .int .i64 fz, .slice KA kn kc]) := Lib.hid (Blk.drew (by rw [hw3]; exact Blk.new w2 52 _))
  have HOD : Hid (Only (w.heap.size ≤ ·) w w3.drew) := Lib.hid (Only.drew (on_new HO1.out (on_new HO2.out HO3.out)))
  have HST : Hid ((fun W : World => W.cell? ⟨w1.heap.size, 0, none⟩ = some (.slice RA rn rc) ∧ W.cell? ⟨w1.heap.size, 1, none⟩ = some (.slice RB sn sc)) w3.drew) := Lib.hid ⟨HT.out.cell 0, HT.out.cell 1⟩
  have hz1 : w1.heap.size = w.heap.size + 1 := by rw [hw1]; simp
  have hz2 : w2.heap.size = w.heap.size + 1 + 1 := by rw [hw2]; simp [hz1]
  rw [hz1] at HST
  rw [hz2] at HC
  have HE1 := Lib.hid hw1
  have HE2 := Lib.hid hw2
  have HE3 := Lib.hid hw3
  clear hw1 hw2 hw3 hz1 hz2
  go_enter Tryd.func6, Tryd.ntmps6
  go_upto_region 1 with (fail)
  rw [← HE1.out]
  rw [← HE2.out]
  rw [← HE3.out]
  clear HE1 HE2 HE3 HA1 HA2 HT2 HT HO1 HO2 HO3
  generalize hb5 : w.heap.size + 1 + 1 = b5 at HC ⊢
  generalize hb4 : w.heap.size + 1 = b4 at HST ⊢
  clear hb4 hb5
  refine wp_region_list (B := [false, false, false, false, false, false]) (S := (fun W : World => W.cell? ⟨b4, 0, none⟩ = some (.slice RA rn rc) ∧ W.cell? ⟨b4, 1, none⟩ = some (.slice RB sn sc))) (by kernel_rfl) (by kernel_rfl) (by kernel_rfl) HST.out (fun hsel hHeld => ?_)
  generalize hwz : World.drew _ = wd at HA HC HST HOD hHeld ⊢
  clear hwz
  refine oneA 0 21 hsel (h := ?_)
  simp only [Act.put, List.setIfInBounds_toArray, List.set_cons_zero, List.set_cons_succ]
  refine oneA 1 22 hsel (h := ?_)
  simp only [Act.put, List.setIfInBounds_toArray, List.set_cons_zero, List.set_cons_succ]
  refine oneA 2 23 hsel (h := ?_)
  simp only [Act.put, List.setIfInBounds_toArray, List.set_cons_zero, List.set_cons_succ]
  refine oneA 3 24 hsel (h := ?_)
  simp only [Act.put, List.setIfInBounds_toArray, List.set_cons_zero, List.set_cons_succ]
  refine oneA 4 7 hsel (h := ?_)
  simp only [Act.put, List.setIfInBounds_toArray, List.set_cons_zero, List.set_cons_succ]
  refine oneA 5 8 hsel (h := ?_)
  simp only [Act.put, List.setIfInBounds_toArray, List.set_cons_zero, List.set_cons_succ]
  refine wpAnyL_done (by kernel_rfl) (by kernel_rfl) ?_ _
  clear hsel hHeld
  obtain ⟨i0, i1, i2, i3, i4, i5, i6, i7⟩ := HA.out.eight
  have c1 : wd.cell? ⟨b5, 1, none⟩ = some (.int .i64 g') := HC.out.cell 1
  have c2 : wd.cell? ⟨b5, 2, none⟩ = some (.int .i64 ph') := HC.out.cell 2
  have c3 : wd.cell? ⟨b5, 3, none⟩ = some (.int .i64 t') := HC.out.cell 3
  have c4 : wd.cell? ⟨b5, 4, none⟩ = some (.int .i64 x2) := HC.out.cell 4
  have c5 : wd.cell? ⟨b5, 5, none⟩ = some (.int .i64 r') := HC.out.cell 5
  have c6 : wd.cell? ⟨b5, 6, none⟩ = some (.int .i64 (N' : Nat)) := HC.out.cell 6
  have c7 : wd.cell? ⟨b5, 7, none⟩ = some (.int .i64 l') := HC.out.cell 7
  have c8 : wd.cell? ⟨b5, 8, none⟩ = some (.slice BA m e) := HC.out.cell 8
  go_upto_region 3 with (fail)
  clear c1 c2 c3 c4 c5 c6 c7 c8 i0 i1 i2 i3 i4 i5 i6 i7
  obtain ⟨w4, hw4⟩ : ∃ W0, W0 = wd.alloc (.cells #[.int .i64 g', .int .i64 ph', .int .i64 t', .int .i64 x2, .int .i64 r', .int .i64 (N' : Nat), .int .i64 l', .slice BA m e] 25) := ⟨_, rfl⟩
  obtain ⟨w5, hw5⟩ : ∃ W0, W0 = w4.setCell ⟨wd.heap.size, 3, none⟩ (.int .i64 (k1 : Nat)) := ⟨_, rfl⟩
  have HO4 : Hid (Only (wd.heap.size ≤ ·) wd w4) := Lib.hid (by rw [hw4]; exact (Only.refl _ wd).alloc (fun _ h => h) _)
  have HO5 : Hid (Only (· = wd.heap.size) w4 w5) := Lib.hid (by rw [hw5]; exact (Only.refl (· = wd.heap.size) w4).setCell (p := ⟨wd.heap.size, 3, none⟩) rfl _)
  have HA4 : Hid (Blk w4 w.heap.size 25 [.int .i64 g, .int .i64 ph, .int .i64 t, .int .i64 (kx : Nat), .int .i64 r, .int .i64 (N : Nat), .int .i64 l, .slice A n c]) := Lib.hid (HA.out.only HO4.out (Nat.not_le.2 HA.out.lt))
  have HC4 : Hid (Blk w4 b5 52 [.slice IA im ic, .int .i64 g', .int .i64 ph', .int .i64 t', .int .i64 x2, .int .i64 r', .int .i64 (N' : Nat), .int .i64 l', .slice BA m e, .int .i64 fz, .slice KA kn kc]) := Lib.hid (HC.out.only HO4.out (Nat.not_le.2 HC.out.lt))
  have HB4 : Hid (Blk w4 wd.heap.size 25 [.int .i64 g', .int .i64 ph', .int .i64 t', .int .i64 x2, .int .i64 r', .int .i64 (N' : Nat), .int .i64 l', .slice BA m e]) := Lib.hid (by rw [hw4]; exact Blk.new wd 25 _)
  have HOB : Hid (Only (w.heap.size ≤ ·) w w5) := Lib.hid ((on_new HOD.out HO4.out).trans (HO5.out.mono fun k hk => by rw [hk]; exact HOD.out.size))
  have HA5 : Hid (Blk w5 w.heap.size 25 [.int .i64 g, .int .i64 ph, .int .i64 t, .int .i64 (kx : Nat), .int .i64 r, .int .i64 (N : Nat), .int .i64 l, .slice A n c]) := Lib.hid (HA4.out.only HO5.out (fun e => by have h := HA.out.lt; omega))
  have HC5 : Hid (Blk w5 b5 52 [.slice IA im ic, .int .i64 g', .int .i64 ph', .int .i64 t', .int .i64 x2, .int .i64 r', .int .i64 (N' : Nat), .int .i64 l', .slice BA m e, .int .i64 fz, .slice KA kn kc]) := Lib.hid (HC4.out.only HO5.out (fun e => by have h := HC.out.lt; omega))
  have HB5 : Hid (Blk w5 wd.heap.size 25 [.int .i64 g', .int .i64 ph', .int .i64 t', .int .i64 (k1 : Nat), .int .i64 r', .int .i64 (N' : Nat), .int .i64 l', .slice BA m e]) := Lib.hid (by rw [hw5]; exact HB4.out.set_ 3 (.int .i64 (k1 : Nat)))
  have i3 : w4.cell? ⟨w.heap.size, 3, none⟩ = some (.int .i64 (kx : Nat)) := HA4.out.cell 3
  have j3 : w4.cell? ⟨wd.heap.size, 3, none⟩ = some (.int .i64 x2) := HB4.out.cell 3
  have z3 := HB4.out.frozen 3
  rw [← hw4]
  have HE5 := Lib.hid hw5
  clear hw4 hw5
  go_upto_region 4 with (fail)
  rw [← HE5.out]
  clear i3 j3 z3 HE5 HA HC HO4 HO5 HA4 HC4 HB4 HST HOD
  generalize hb9 : wd.heap.size = b9 at HB5 ⊢
  clear hb9
  have HO : Hid (Only (w5.heap.size ≤ ·) w5 w5) := Lib.hid (Only.refl _ w5)
  have HF1 := Lib.hid (fun W (hW : Only (w5.heap.size ≤ ·) w5 W) => HF10 W (on_new HOB.out hW))
  have HF2 := Lib.hid (fun W (hW : Only (w5.heap.size ≤ ·) w5 W) => HF20 W (on_new HOB.out hW))
  have HF3 := Lib.hid (fun W (hW : Only (w5.heap.size ≤ ·) w5 W) => HF30 W (on_new HOB.out hW))
  have HR1 := Lib.hid (fun W (hW : Only (w5.heap.size ≤ ·) w5 W) => HR10 W (on_new HOB.out hW))
  have HR2 := Lib.hid (fun W (hW : Only (w5.heap.size ≤ ·) w5 W) => HR20 W (on_new HOB.out hW))
  have HAL := Lib.hid (fun W (hW : Only (w5.heap.size ≤ ·) w5 W) => HAL0 W (on_new HOB.out hW))
  clear HF10 HF20 HF30 HR10 HR20 HAL0
  (obtain ⟨i0, i1, i2, i3, i4, i5, i6, i7⟩ := (HA5.out.only HO.out (Nat.not_le.2 HA5.out.lt)).eight); (obtain ⟨j0, j1, j2, j3, j4, j5, j6, j7⟩ := (HB5.out.only HO.out (Nat.not_le.2 HB5.out.lt)).eight); have c9 := (HC5.out.only HO.out (Nat.not_le.2 HC5.out.lt)).cell 9; have c10 := (HC5.out.only HO.out (Nat.not_le.2 HC5.out.lt)).cell 10; simp only [List.getElem?_cons_succ, List.getElem?_cons_zero] at c9 c10
  go_upto_region 6 with (first | (go_at_call 7; (with_reducible refine (HF1.out _ HO.out).mono ?_); rintro e wa ⟨rfl, ho⟩; (replace HO := Lib.hid (on_new HO.out ho)); clear ho i0 i1 i2 i3 i4 i5 i6 i7 j0 j1 j2 j3 j4 j5 j6 j7 c9 c10; (obtain ⟨i0, i1, i2, i3, i4, i5, i6, i7⟩ := (HA5.out.only HO.out (Nat.not_le.2 HA5.out.lt)).eight); (obtain ⟨j0, j1, j2, j3, j4, j5, j6, j7⟩ := (HB5.out.only HO.out (Nat.not_le.2 HB5.out.lt)).eight); have c9 := (HC5.out.only HO.out (Nat.not_le.2 HC5.out.lt)).cell 9; have c10 := (HC5.out.only HO.out (Nat.not_le.2 HC5.out.lt)).cell 10; simp only [List.getElem?_cons_succ, List.getElem?_cons_zero] at c9 c10) | (go_at_call 7; (with_reducible refine (HF2.out _ HO.out).mono ?_); rintro e wa ⟨rfl, ho⟩; (replace HO := Lib.hid (on_new HO.out ho)); clear ho i0 i1 i2 i3 i4 i5 i6 i7 j0 j1 j2 j3 j4 j5 j6 j7 c9 c10; (obtain ⟨i0, i1, i2, i3, i4, i5, i6, i7⟩ := (HA5.out.only HO.out (Nat.not_le.2 HA5.out.lt)).eight); (obtain ⟨j0, j1, j2, j3, j4, j5, j6, j7⟩ := (HB5.out.only HO.out (Nat.not_le.2 HB5.out.lt)).eight); have c9 := (HC5.out.only HO.out (Nat.not_le.2 HC5.out.lt)).cell 9; have c10 := (HC5.out.only HO.out (Nat.not_le.2 HC5.out.lt)).cell 10; simp only [List.getElem?_cons_succ, List.getElem?_cons_zero] at c9 c10) | (go_at_call 7; (with_reducible refine (HF3.out _ HO.out).mono ?_); rintro e wa ⟨rfl, ho⟩; (replace HO := Lib.hid (on_new HO.out ho)); clear ho i0 i1 i2 i3 i4 i5 i6 i7 j0 j1 j2 j3 j4 j5 j6 j7 c9 c10; (obtain ⟨i0, i1, i2, i3, i4, i5, i6, i7⟩ := (HA5.out.only HO.out (Nat.not_le.2 HA5.out.lt)).eight); (obtain ⟨j0, j1, j2, j3, j4, j5, j6, j7⟩ := (HB5.out.only HO.out (Nat.not_le.2 HB5.out.lt)).eight); have c9 := (HC5.out.only HO.out (Nat.not_le.2 HC5.out.lt)).cell 9; have c10 := (HC5.out.only HO.out (Nat.not_le.2 HC5.out.lt)).cell 10; simp only [List.getElem?_cons_succ, List.getElem?_cons_zero] at c9 c10) | (go_at_call 8; (with_reducible refine (HR1.out _ HO.out).mono ?_); rintro e wa ⟨rfl, ho⟩; (replace HO := Lib.hid (on_new HO.out ho)); clear ho i0 i1 i2 i3 i4 i5 i6 i7 j0 j1 j2 j3 j4 j5 j6 j7 c9 c10; (obtain ⟨i0, i1, i2, i3, i4, i5, i6, i7⟩ := (HA5.out.only HO.out (Nat.not_le.2 HA5.out.lt)).eight); (obtain ⟨j0, j1, j2, j3, j4, j5, j6, j7⟩ := (HB5.out.only HO.out (Nat.not_le.2 HB5.out.lt)).eight); have c9 := (HC5.out.only HO.out (Nat.not_le.2 HC5.out.lt)).cell 9; have c10 := (HC5.out.only HO.out (Nat.not_le.2 HC5.out.lt)).cell 10; simp only [List.getElem?_cons_succ, List.getElem?_cons_zero] at c9 c10) | (go_at_call 8; (with_reducible refine (HR2.out _ HO.out).mono ?_); rintro e wa ⟨rfl, ho⟩; (replace HO := Lib.hid (on_new HO.out ho)); clear ho i0 i1 i2 i3 i4 i5 i6 i7 j0 j1 j2 j3 j4 j5 j6 j7 c9 c10; (obtain ⟨i0, i1, i2, i3, i4, i5, i6, i7⟩ := (HA5.out.only HO.out (Nat.not_le.2 HA5.out.lt)).eight); (obtain ⟨j0, j1, j2, j3, j4, j5, j6, j7⟩ := (HB5.out.only HO.out (Nat.not_le.2 HB5.out.lt)).eight); have c9 := (HC5.out.only HO.out (Nat.not_le.2 HC5.out.lt)).cell 9; have c10 := (HC5.out.only HO.out (Nat.not_le.2 HC5.out.lt)).cell 10; simp only [List.getElem?_cons_succ, List.getElem?_cons_zero] at c9 c10))
  clear c9 c10 HF1 HF2 HF3 HR1 HR2 HAL
  obtain ⟨w6, hw6⟩ : ∃ W0, W0 = wa.alloc (.cells #[.int .i64 g, .int .i64 ph, .int .i64 t, .int .i64 (kx : Nat), .int .i64 r, .int .i64 (N : Nat), .int .i64 l, .slice A n c] 25) := ⟨_, rfl⟩
  obtain ⟨w7, hw7⟩ : ∃ W0, W0 = w6.setCell ⟨wa.heap.size, 3, none⟩ (.int .i64 (k1 : Nat)) := ⟨_, rfl⟩
  have HO6 : Hid (Only (wa.heap.size ≤ ·) wa w6) := Lib.hid (by rw [hw6]; exact (Only.refl _ wa).alloc (fun _ h => h) _)
  have HO67 : Hid (Only (· = wa.heap.size) w6 w7) := Lib.hid (by rw [hw7]; exact (Only.refl (· = wa.heap.size) w6).setCell (p := ⟨wa.heap.size, 3, none⟩) rfl _)
  have HA6 : Hid (Blk wa w.heap.size 25 [.int .i64 g, .int .i64 ph, .int .i64 t, .int .i64 (kx : Nat), .int .i64 r, .int .i64 (N : Nat), .int .i64 l, .slice A n c]) := Lib.hid (HA5.out.only HO.out (Nat.not_le.2 HA5.out.lt))
  have HB6 : Hid (Blk wa b9 25 [.int .i64 g', .int .i64 ph', .int .i64 t', .int .i64 (k1 : Nat), .int .i64 r', .int .i64 (N' : Nat), .int .i64 l', .slice BA m e]) := Lib.hid (HB5.out.only HO.out (Nat.not_le.2 HB5.out.lt))
  have HC6 : Hid (Blk wa b5 52 [.slice IA im ic, .int .i64 g', .int .i64 ph', .int .i64 t', .int .i64 x2, .int .i64 r', .int .i64 (N' : Nat), .int .i64 l', .slice BA m e, .int .i64 fz, .slice KA kn kc]) := Lib.hid (HC5.out.only HO.out (Nat.not_le.2 HC5.out.lt))
  have HN6 : Hid (Blk w6 wa.heap.size 25 [.int .i64 g, .int .i64 ph, .int .i64 t, .int .i64 (kx : Nat), .int .i64 r, .int .i64 (N : Nat), .int .i64 l, .slice A n c]) := Lib.hid (by rw [hw6]; exact Blk.new wa 25 _)
  have HA7 : Hid (Blk w7 w.heap.size 25 [.int .i64 g, .int .i64 ph, .int .i64 t, .int .i64 (kx : Nat), .int .i64 r, .int .i64 (N : Nat), .int .i64 l, .slice A n c]) := Lib.hid ((HA6.out.only HO6.out (Nat.not_le.2 HA6.out.lt)).only HO67.out (fun h9 => by have h8 := HA6.out.lt; omega))
  have HB7 : Hid (Blk w7 b9 25 [.int .i64 g', .int .i64 ph', .int .i64 t', .int .i64 (k1 : Nat), .int .i64 r', .int .i64 (N' : Nat), .int .i64 l', .slice BA m e]) := Lib.hid ((HB6.out.only HO6.out (Nat.not_le.2 HB6.out.lt)).only HO67.out (fun h9 => by have h8 := HB6.out.lt; omega))
  have HC7 : Hid (Blk w7 b5 52 [.slice IA im ic, .int .i64 g', .int .i64 ph', .int .i64 t', .int .i64 x2, .int .i64 r', .int .i64 (N' : Nat), .int .i64 l', .slice BA m e, .int .i64 fz, .slice KA kn kc]) := Lib.hid ((HC6.out.only HO6.out (Nat.not_le.2 HC6.out.lt)).only HO67.out (fun h9 => by have h8 := HC6.out.lt; omega))
  have HN7 : Hid (Blk w7 wa.heap.size 25 [.int .i64 g, .int .i64 ph, .int .i64 t, .int .i64 (k1 : Nat), .int .i64 r, .int .i64 (N : Nat), .int .i64 l, .slice A n c]) := Lib.hid (by rw [hw7]; exact HN6.out.set_ 3 (.int .i64 (k1 : Nat)))
  have HOW7 : Hid (Only (w.heap.size ≤ ·) w w7) := Lib.hid ((on_new (on_new HOB.out HO.out) HO6.out).trans (HO67.out.mono fun k hk => by rw [hk]; exact (on_new HOB.out HO.out).size))
  have HE6 := Lib.hid hw6
  have HE7 := Lib.hid hw7
  clear hw6 hw7
  go_upto_region 7 with (fail)
  rw [← HE6.out]
  clear i0 i1 i2 i3 i4 i5 i6 i7 j0 j1 j2 j3 j4 j5 j6 j7
  have j3 : w6.cell? ⟨b9, 3, none⟩ = some (.int .i64 (k1 : Nat)) := (HB6.out.only HO6.out (Nat.not_le.2 HB6.out.lt)).cell 3
  have n3 : w6.cell? ⟨wa.heap.size, 3, none⟩ = some (.int .i64 (kx : Nat)) := HN6.out.cell 3
  have z3 := HN6.out.frozen 3
  go_upto_region 8 with (fail)
  rw [← HE7.out]
  clear j3 n3 z3 HE6 HE7 HO6 HO67 HA6 HB6 HC6 HN6 HA5 HB5 HC5 HO HOB
  generalize hb10 : wa.heap.size = b10 at HN7 ⊢
  clear hb10
  have HR3 := Lib.hid (fun W (hW : Only (w7.heap.size ≤ ·) w7 W) => HR30 W (on_new HOW7.out hW))
  have HAL7 := Lib.hid (fun W (hW : Only (w7.heap.size ≤ ·) w7 W) => HAL80 W (on_new HOW7.out hW))
  clear HR30 HAL80
  have HO7 : Hid (Only (w7.heap.size ≤ ·) w7 w7) := Lib.hid (Only.refl _ w7)
  obtain ⟨n0, n1, n2, n3, n4, n5, n6, n7⟩ := HN7.out.eight
  go_wp2_with (first | (go_at_call 8; (with_reducible refine (HR3.out _ HO7.out).mono ?_); rintro e9 wb ⟨rfl, ho⟩; (replace HO7 := Lib.hid (on_new HO7.out ho)); clear ho) | (go_at_call 9; (with_reducible refine (HAL7.out _ HO7.out).mono ?_); rintro e9 wc ⟨rfl, ho⟩; (replace HO7 := Lib.hid (on_new HO7.out ho)); clear ho))
  go_ret
  exact ⟨rfl, on_new HOW7.out HO7.out⟩
set_option maxRecDepth 100000 in
set_option maxHeartbeats 51200000 in
theorem pagain_main (w : World) (hG : Gens w) (g ph t : Int) (kx : Nat) (r : Int) (N : Nat) (l : Int) (A : Option Addr) (n c : Nat) (IA : Option Addr) (im ic : Nat) (g' ph' t' x2 r' : Int) (N' : Nat) (l' : Int) (BA : Option Addr) (m e : Nat) (fz : Int) (KA : Option Addr) (kn kc : Nat) (RA : Option Addr) (rn rc : Nat) (ws : List Wt) (RB : Option Addr) (sn sc : Nat) (vs : List Wt) (h : Wts w (.slice RA rn rc) ws) (h' : Wts w (.slice RB sn sc) vs) (hsum : ∀ y ∈ ws, y.2.length ≤ 140737488355328) (hsum' : ∀ y ∈ vs, y.2.length ≤ 140737488355328) (hI : ∀ y ∈ ws, I64v y.1) (hI' : ∀ y ∈ vs, I64v y.1) (xs ys : Bytes) (kl : List Bool) (hs : Src w (.slice A n c) xs) (hne : n = xs.length) (hs' : Src w (.slice BA m e) ys) (hne' : m = ys.length) (hK : Rw boE w (.slice KA kn kc) kl) (hM : ∀ u ∈ [g, ph, t, (kx : Int), r, (N : Int), l], I64 u) (hM1 : ∀ u ∈ [g, ph, t, ((kx + 1 : Nat) : Int), r, (N : Int), l], I64 u) (hM2 : ∀ u ∈ [g', ph', t', ((kx + 1 : Nat) : Int), r', (N' : Int), l'], I64 u) (hfz : I64v fz) (hkx : kx + 1 ≤ 2147483647) (hx2' : 2 ≤ kx) (hkn : kn ≤ 200) (hfz' : fz ≤ 1000) (hf1 : fewP ws N' m = true) (hf2 : fewP vs N' m = true) (hf3 : fewP [] N n = true) (hq1 : pgRight (okM g' ph' t' (kx + 1 : Nat) r' N' l' m) N' ws = true) (hq2 : pgRight (okM g ph t kx r N l n) N [] = true) (hq3 : pgRight (okM g ph t (kx + 1 : Nat) r N l n) N vs = true) : Calls Tryd.prog 6 #[.agg #[.int .i64 g, .int .i64 ph, .int .i64 t, .int .i64 (kx : Nat), .int .i64 r, .int .i64 (N : Nat), .int .i64 l, .slice A n c], .agg #[.slice RA rn rc, .slice RB sn sc], .agg #[.slice IA im ic, .int .i64 g', .int .i64 ph', .int .i64 t', .int .i64 x2, .int .i64 r', .int .i64 (N' : Nat), .int .i64 l', .slice BA m e, .int .i64 fz, .slice KA kn kc]] w (Told w (.bool true)) := by
  obtain ⟨k1, hk1⟩ : ∃ z, z = kx + 1 := ⟨_, rfl⟩
  have hx2 : wrap64 ((kx : Int) + 1) = (k1 : Int) := by rw [IntWalk.wrap64_in _ (by omega)]; omega
  rw [← hk1] at hq1 hq3 hM1 hM2
  have HF10 : ∀ W, Only (w.heap.size ≤ ·) w W → Calls Tryd.prog 7 #[.slice RA rn rc, .agg #[.int .i64 g', .int .i64 ph', .int .i64 t', .int .i64 (k1 : Nat), .int .i64 r', .int .i64 (N' : Nat), .int .i64 l', .slice BA m e]] W (Told W (.bool true)) := fun W hW => by have h9 := Pgfew_w W g' ph' t' k1 r' N' l' BA m e RA rn rc ws (Rw.later h hW) hsum; rwa [hf1] at h9
  have HF20 : ∀ W, Only (w.heap.size ≤ ·) w W → Calls Tryd.prog 7 #[.slice RB sn sc, .agg #[.int .i64 g', .int .i64 ph', .int .i64 t', .int .i64 (k1 : Nat), .int .i64 r', .int .i64 (N' : Nat), .int .i64 l', .slice BA m e]] W (Told W (.bool true)) := fun W hW => by have h9 := Pgfew_w W g' ph' t' k1 r' N' l' BA m e RB sn sc vs (Rw.later h' hW) hsum'; rwa [hf2] at h9
  have HF30 : ∀ W, Only (w.heap.size ≤ ·) w W → Calls Tryd.prog 7 #[.slice none 0 0, .agg #[.int .i64 g, .int .i64 ph, .int .i64 t, .int .i64 (kx : Nat), .int .i64 r, .int .i64 (N : Nat), .int .i64 l, .slice A n c]] W (Told W (.bool true)) := fun W hW => by have h9 := Pgfew_w W g ph t kx r N l A n c none 0 0 [] (Rw.nil_ W) (fun y hy => nomatch hy); rwa [hf3] at h9
  have HR10 : ∀ W, Only (w.heap.size ≤ ·) w W → Calls Tryd.prog 8 #[.slice RA rn rc, .agg #[.int .i64 g', .int .i64 ph', .int .i64 t', .int .i64 (k1 : Nat), .int .i64 r', .int .i64 (N' : Nat), .int .i64 l', .slice BA m e]] W (Told W (.bool true)) := fun W hW => by have h9 := rPgRight_c W g' ph' t' k1 r' N' l' BA m e RA rn rc ws (Rw.later h hW) hI; rwa [hq1] at h9
  have HR20 : ∀ W, Only (w.heap.size ≤ ·) w W → Calls Tryd.prog 8 #[.slice none 0 0, .agg #[.int .i64 g, .int .i64 ph, .int .i64 t, .int .i64 (kx : Nat), .int .i64 r, .int .i64 (N : Nat), .int .i64 l, .slice A n c]] W (Told W (.bool true)) := fun W hW => by have h9 := rPgRight_c W g ph t kx r N l A n c none 0 0 [] (Rw.nil_ W) (fun y hy => nomatch hy); rwa [hq2] at h9
  have HR30 : ∀ W, Only (w.heap.size ≤ ·) w W → Calls Tryd.prog 8 #[.slice RB sn sc, .agg #[.int .i64 g, .int .i64 ph, .int .i64 t, .int .i64 (k1 : Nat), .int .i64 r, .int .i64 (N : Nat), .int .i64 l, .slice A n c]] W (Told W (.bool true)) := fun W hW => by have h9 := rPgRight_c W g ph t k1 r N l A n c RB sn sc vs (Rw.later h' hW) hI'; rwa [hq3] at h9
  have HAL0 : ∀ W, Only (w.heap.size ≤ ·) w W → Calls Tryd.prog 9 #[] W (Told W (.bool true)) := fun W hW => Pgalive_c W (hG.later hW)
  have HAL80 := HAL0
  obtain ⟨hz, hhz⟩ : ∃ z, Int.tdiv fz 2 = z := ⟨_, rfl⟩
  have hhb : -9223372036854775808 ≤ hz ∧ hz ≤ 9223372036854775807 := half_bound hfz hhz
  obtain ⟨d0, d1, d3, e1, e2, a1, a2, a3, a4, a5, a6, a7, a8, a9⟩ := again_all (kl := kl) (fz := fz) (hz := hz) hk1 hfz.2 hhb.2 hne hne' hx2' hf1 hf2 hf3 hq1 hq2 hq3
  have HQ0 := Lib.hid a1
  have HQ1 := Lib.hid a2
  have HQ2 := Lib.hid a3
  have HRM0 := Lib.hid a4
  have HRM1 := Lib.hid a5
  have HRW1 := Lib.hid a6
  have HRM2 := Lib.hid a7
  have HRW3 := Lib.hid a8
  have HOR := Lib.hid a9
  clear a1 a2 a3 a4 a5 a6 a7 a8 a9
  have HMO := Lib.hid hM
  have HMX := Lib.hid hM1
  have HMY := Lib.hid hM2
  have HG := Lib.hid hG
  have HS := Lib.hid hs
  have HS' := Lib.hid hs'
  have HNX := Lib.hid hne
  have HNY := Lib.hid hne'
  have HW := Lib.hid h
  have HW' := Lib.hid h'
  have HLA := Lib.hid h.len
  have HLB := Lib.hid h'.len
  have HIA := Lib.hid hI
  have HIB := Lib.hid hI'
  have HK := Lib.hid hK
  have HKN := Lib.hid hkn
  have HHB := Lib.hid hhb
  have HHZ := Lib.hid hhz
  have HFZ : Hid (fz ≤ 9223372036854775807) := Lib.hid hfz.2
  have HKO : Hid (∀ ad, KA = some ad → 0 < kn → ad.block < w.heap.size) := Lib.hid (fun ad e1 h1 => by
    obtain ⟨b, off, x, cs, e2, hb, _⟩ := Rw.at_ (E := boE) (by decide) hK (k := 0) h1
    rw [e1] at e2
    cases e2
    exact hb)
  have hrn : rn ≤ 12 := by have h4 := h.len; have h5 := (few_facts2 hf1).1; omega
  have hsn : sn ≤ 12 := by have h4 := h'.len; have h5 := (few_facts2 hf2).1; omega
  have h1 : ¬ (kx : Int) < 2 := by omega
  have h2 : ¬ 200 < (kn : Int) := by omega
  have h3 : ¬ 1000 < fz := by omega
  clear h h' hsum hsum' hI hI' hG hf1 hf2 hf3 hq1 hq2 hq3 hs hs' hne hne' hK hM hM1 hM2 hfz hk1 hkx hx2' hfz'
  clear hhz hhb
  obtain ⟨w1, hw1⟩ : ∃ W0, W0 = w.alloc (.cells #[.int .i64 g, .int .i64 ph, .int .i64 t, .int .i64 (kx : Nat), .int .i64 r, .int .i64 (N : Nat), .int .i64 l, .slice A n c] 25) := ⟨_, rfl⟩
  obtain ⟨w2, hw2⟩ : ∃ W0, W0 = w1.alloc (.cells #[.slice RA rn rc, .slice RB sn sc] 49) := ⟨_, rfl⟩
  obtain ⟨w3, hw3⟩ : ∃ W0, W0 = w2.alloc (.cells #[.slice IA im ic, .int .i64 g', .int .i64 ph', .int .i64 t', .int .i64 x2, .int .i64 r', .int .i64 (N' : Nat), .int .i64 l', .slice BA m e, .int .i64 fz, .slice KA kn kc] 52) := ⟨_, rfl⟩
  have HO1 : Hid (Only (w.heap.size ≤ ·) w w1) := Lib.hid (by rw [hw1]; exact (Only.refl _ w).alloc (fun _ h => h) _)
  have HO2 : Hid (Only (w1.heap.size ≤ ·) w1 w2) := Lib.hid (by rw [hw2]; exact (Only.refl _ w1).alloc (fun _ h => h) _)
  have HO3 : Hid (Only (w2.heap.size ≤ ·) w2 w3) := Lib.hid (by rw [hw3]; exact (Only.refl _ w2).alloc (fun _ h => h) _)
  have HA1 : Hid (Blk w1 w.heap.size 25 [.int .i64 g, .int .i64 ph, .int .i64 t, .int .i64 (kx : Nat), .int .i64 r, .int .i64 (N : Nat), .int .i64 l, .slice A n c]) := Lib.hid (by rw [hw1]; exact Blk.new w 25 _)
  have HA2 : Hid (Blk w2 w.heap.size 25 [.int .i64 g, .int .i64 ph, .int .i64 t, .int .i64 (kx : Nat), .int .i64 r, .int .i64 (N : Nat), .int .i64 l, .slice A n c]) := Lib.hid (HA1.out.only HO2.out (Nat.not_le.2 HA1.out.lt))
  have HA : Hid (Blk w3.drew w.heap.size 25 [.int .i64 g, .int .i64 ph, .int .i64 t, .int .i64 (kx : Nat), .int .i64 r, .int .i64 (N : Nat), .int .i64 l, .slice A n c]) := Lib.hid (Blk.drew (HA2.out.only HO3.out (Nat.not_le.2 HA2.out.lt)))
  have HT2 : Hid (Blk w2 w1.heap.size 49 [.slice RA rn rc, .slice RB sn sc]) := Lib.hid (by rw [hw2]; exact Blk.new w1 49 _)
  have HT : Hid (Blk w3.drew w1.heap.size 49 [.slice RA rn rc, .slice RB sn sc]) := Lib.hid (Blk.drew (HT2.out.only HO3.out (Nat.not_le.2 HT2.out.lt)))
  have HC : Hid (Blk w3.drew w2.heap.size 52 [.slice IA im ic, .int .i64 g', .int .i64 ph', .int .i64 t', .int .i64 x2, .int .i64 r', .int .i64 (N' : Nat), .int .i64 l', .slice BA m e, .int .i64 fz, .slice KA kn kc]) := Lib.hid (Blk.drew (by rw [hw3]; exact Blk.new w2 52 _))
  have HOD : Hid (Only (w.heap.size ≤ ·) w w3.drew) := Lib.hid (Only.drew (on_new HO1.out (on_new HO2.out HO3.out)))
  have HST : Hid ((fun W : World => W.cell? ⟨w1.heap.size, 0, none⟩ = some (.slice RA rn rc) ∧ W.cell? ⟨w1.heap.size, 1, none⟩ = some (.slice RB sn sc)) w3.drew) := Lib.hid ⟨HT.out.cell 0, HT.out.cell 1⟩
  have hz1 : w1.heap.size = w.heap.size + 1 := by rw [hw1]; simp
  have hz2 : w2.heap.size = w.heap.size + 1 + 1 := by rw [hw2]; simp [hz1]
  rw [hz1] at HST
  rw [hz2] at HC
  have HE1 := Lib.hid hw1
  have HE2 := Lib.hid hw2
  have HE3 := Lib.hid hw3
  clear hw1 hw2 hw3 hz1 hz2
  go_enter Tryd.func6, Tryd.ntmps6
  go_upto_region 1 with (fail)
  rw [← HE1.out]
  rw [← HE2.out]
  rw [← HE3.out]
  clear HE1 HE2 HE3 HA1 HA2 HT2 HT HO1 HO2 HO3
  generalize hb5 : w.heap.size + 1 + 1 = b5 at HC ⊢
  generalize hb4 : w.heap.size + 1 = b4 at HST ⊢
  clear hb4 hb5
  refine wp_region_list (B := [false, false, false, false, false, false]) (S := (fun W : World => W.cell? ⟨b4, 0, none⟩ = some (.slice RA rn rc) ∧ W.cell? ⟨b4, 1, none⟩ = some (.slice RB sn sc))) (by kernel_rfl) (by kernel_rfl) (by kernel_rfl) HST.out (fun hsel hHeld => ?_)
  generalize hwz : World.drew _ = wd at HA HC HST HOD hHeld ⊢
  clear hwz
  refine oneA 0 21 hsel (h := ?_)
  simp only [Act.put, List.setIfInBounds_toArray, List.set_cons_zero, List.set_cons_succ]
  refine oneA 1 22 hsel (h := ?_)
  simp only [Act.put, List.setIfInBounds_toArray, List.set_cons_zero, List.set_cons_succ]
  refine oneA 2 23 hsel (h := ?_)
  simp only [Act.put, List.setIfInBounds_toArray, List.set_cons_zero, List.set_cons_succ]
  refine oneA 3 24 hsel (h := ?_)
  simp only [Act.put, List.setIfInBounds_toArray, List.set_cons_zero, List.set_cons_succ]
  refine oneA 4 7 hsel (h := ?_)
  simp only [Act.put, List.setIfInBounds_toArray, List.set_cons_zero, List.set_cons_succ]
  refine oneA 5 8 hsel (h := ?_)
  simp only [Act.put, List.setIfInBounds_toArray, List.set_cons_zero, List.set_cons_succ]
  refine wpAnyL_done (by kernel_rfl) (by kernel_rfl) ?_ _
  clear hsel hHeld
  obtain ⟨i0, i1, i2, i3, i4, i5, i6, i7⟩ := HA.out.eight
  have c1 : wd.cell? ⟨b5, 1, none⟩ = some (.int .i64 g') := HC.out.cell 1
  have c2 : wd.cell? ⟨b5, 2, none⟩ = some (.int .i64 ph') := HC.out.cell 2
  have c3 : wd.cell? ⟨b5, 3, none⟩ = some (.int .i64 t') := HC.out.cell 3
  have c4 : wd.cell? ⟨b5, 4, none⟩ = some (.int .i64 x2) := HC.out.cell 4
  have c5 : wd.cell? ⟨b5, 5, none⟩ = some (.int .i64 r') := HC.out.cell 5
  have c6 : wd.cell? ⟨b5, 6, none⟩ = some (.int .i64 (N' : Nat)) := HC.out.cell 6
  have c7 : wd.cell? ⟨b5, 7, none⟩ = some (.int .i64 l') := HC.out.cell 7
  have c8 : wd.cell? ⟨b5, 8, none⟩ = some (.slice BA m e) := HC.out.cell 8
  go_upto_region 3 with (fail)
  clear c1 c2 c3 c4 c5 c6 c7 c8 i0 i1 i2 i3 i4 i5 i6 i7
  obtain ⟨w4, hw4⟩ : ∃ W0, W0 = wd.alloc (.cells #[.int .i64 g', .int .i64 ph', .int .i64 t', .int .i64 x2, .int .i64 r', .int .i64 (N' : Nat), .int .i64 l', .slice BA m e] 25) := ⟨_, rfl⟩
  obtain ⟨w5, hw5⟩ : ∃ W0, W0 = w4.setCell ⟨wd.heap.size, 3, none⟩ (.int .i64 (k1 : Nat)) := ⟨_, rfl⟩
  have HO4 : Hid (Only (wd.heap.size ≤ ·) wd w4) := Lib.hid (by rw [hw4]; exact (Only.refl _ wd).alloc (fun _ h => h) _)
  have HO5 : Hid (Only (· = wd.heap.size) w4 w5) := Lib.hid (by rw [hw5]; exact (Only.refl (· = wd.heap.size) w4).setCell (p := ⟨wd.heap.size, 3, none⟩) rfl _)
  have HA4 : Hid (Blk w4 w.heap.size 25 [.int .i64 g, .int .i64 ph, .int .i64 t, .int .i64 (kx : Nat), .int .i64 r, .int .i64 (N : Nat), .int .i64 l, .slice A n c]) := Lib.hid (HA.out.only HO4.out (Nat.not_le.2 HA.out.lt))
  have HC4 : Hid (Blk w4 b5 52 [.slice IA im ic, .int .i64 g', .int .i64 ph', .int .i64 t', .int .i64 x2, .int .i64 r', .int .i64 (N' : Nat), .int .i64 l', .slice BA m e, .int .i64 fz, .slice KA kn kc]) := Lib.hid (HC.out.only HO4.out (Nat.not_le.2 HC.out.lt))
  have HB4 : Hid (Blk w4 wd.heap.size 25 [.int .i64 g', .int .i64 ph', .int .i64 t', .int .i64 x2, .int .i64 r', .int .i64 (N' : Nat), .int .i64 l', .slice BA m e]) := Lib.hid (by rw [hw4]; exact Blk.new wd 25 _)
  have HOB : Hid (Only (w.heap.size ≤ ·) w w5) := Lib.hid ((on_new HOD.out HO4.out).trans (HO5.out.mono fun k hk => by rw [hk]; exact HOD.out.size))
  have HA5 : Hid (Blk w5 w.heap.size 25 [.int .i64 g, .int .i64 ph, .int .i64 t, .int .i64 (kx : Nat), .int .i64 r, .int .i64 (N : Nat), .int .i64 l, .slice A n c]) := Lib.hid (HA4.out.only HO5.out (fun e => by have h := HA.out.lt; omega))
  have HC5 : Hid (Blk w5 b5 52 [.slice IA im ic, .int .i64 g', .int .i64 ph', .int .i64 t', .int .i64 x2, .int .i64 r', .int .i64 (N' : Nat), .int .i64 l', .slice BA m e, .int .i64 fz, .slice KA kn kc]) := Lib.hid (HC4.out.only HO5.out (fun e => by have h := HC.out.lt; omega))
  have HB5 : Hid (Blk w5 wd.heap.size 25 [.int .i64 g', .int .i64 ph', .int .i64 t', .int .i64 (k1 : Nat), .int .i64 r', .int .i64 (N' : Nat), .int .i64 l', .slice BA m e]) := Lib.hid (by rw [hw5]; exact HB4.out.set_ 3 (.int .i64 (k1 : Nat)))
  have i3 : w4.cell? ⟨w.heap.size, 3, none⟩ = some (.int .i64 (kx : Nat)) := HA4.out.cell 3
  have j3 : w4.cell? ⟨wd.heap.size, 3, none⟩ = some (.int .i64 x2) := HB4.out.cell 3
  have z3 := HB4.out.frozen 3
  rw [← hw4]
  have HE5 := Lib.hid hw5
  clear hw4 hw5
  go_upto_region 4 with (fail)
  rw [← HE5.out]
  clear i3 j3 z3 HE5 HA HC HO4 HO5 HA4 HC4 HB4 HST HOD
  generalize hb9 : wd.heap.size = b9 at HB5 ⊢
  clear hb9
  have HO : Hid (Only (w5.heap.size ≤ ·) w5 w5) := Lib.hid (Only.refl _ w5)
  have HF1 := Lib.hid (fun W (hW : Only (w5.heap.size ≤ ·) w5 W) => HF10 W (on_new HOB.out hW))
  have HF2 := Lib.hid (fun W (hW : Only (w5.heap.size ≤ ·) w5 W) => HF20 W (on_new HOB.out hW))
  have HF3 := Lib.hid (fun W (hW : Only (w5.heap.size ≤ ·) w5 W) => HF30 W (on_new HOB.out hW))
  have HR1 := Lib.hid (fun W (hW : Only (w5.heap.size ≤ ·) w5 W) => HR10 W (on_new HOB.out hW))
  have HR2 := Lib.hid (fun W (hW : Only (w5.heap.size ≤ ·) w5 W) => HR20 W (on_new HOB.out hW))
  have HAL := Lib.hid (fun W (hW : Only (w5.heap.size ≤ ·) w5 W) => HAL0 W (on_new HOB.out hW))
  clear HF10 HF20 HF30 HR10 HR20 HAL0
  (obtain ⟨i0, i1, i2, i3, i4, i5, i6, i7⟩ := (HA5.out.only HO.out (Nat.not_le.2 HA5.out.lt)).eight); (obtain ⟨j0, j1, j2, j3, j4, j5, j6, j7⟩ := (HB5.out.only HO.out (Nat.not_le.2 HB5.out.lt)).eight); have c9 := (HC5.out.only HO.out (Nat.not_le.2 HC5.out.lt)).cell 9; have c10 := (HC5.out.only HO.out (Nat.not_le.2 HC5.out.lt)).cell 10; simp only [List.getElem?_cons_succ, List.getElem?_cons_zero] at c9 c10
  go_upto_region 6 with (first | (go_at_call 7; (with_reducible refine (HF1.out _ HO.out).mono ?_); rintro e wa ⟨rfl, ho⟩; (replace HO := Lib.hid (on_new HO.out ho)); clear ho i0 i1 i2 i3 i4 i5 i6 i7 j0 j1 j2 j3 j4 j5 j6 j7 c9 c10; (obtain ⟨i0, i1, i2, i3, i4, i5, i6, i7⟩ := (HA5.out.only HO.out (Nat.not_le.2 HA5.out.lt)).eight); (obtain ⟨j0, j1, j2, j3, j4, j5, j6, j7⟩ := (HB5.out.only HO.out (Nat.not_le.2 HB5.out.lt)).eight); have c9 := (HC5.out.only HO.out (Nat.not_le.2 HC5.out.lt)).cell 9; have c10 := (HC5.out.only HO.out (Nat.not_le.2 HC5.out.lt)).cell 10; simp only [List.getElem?_cons_succ, List.getElem?_cons_zero] at c9 c10) | (go_at_call 7; (with_reducible refine (HF2.out _ HO.out).mono ?_); rintro e wa ⟨rfl, ho⟩; (replace HO := Lib.hid (on_new HO.out ho)); clear ho i0 i1 i2 i3 i4 i5 i6 i7 j0 j1 j2 j3 j4 j5 j6 j7 c9 c10; (obtain ⟨i0, i1, i2, i3, i4, i5, i6, i7⟩ := (HA5.out.only HO.out (Nat.not_le.2 HA5.out.lt)).eight); (obtain ⟨j0, j1, j2, j3, j4, j5, j6, j7⟩ := (HB5.out.only HO.out (Nat.not_le.2 HB5.out.lt)).eight); have c9 := (HC5.out.only HO.out (Nat.not_le.2 HC5.out.lt)).cell 9; have c10 := (HC5.out.only HO.out (Nat.not_le.2 HC5.out.lt)).cell 10; simp only [List.getElem?_cons_succ, List.getElem?_cons_zero] at c9 c10) | (go_at_call 7; (with_reducible refine (HF3.out _ HO.out).mono ?_); rintro e wa ⟨rfl, ho⟩; (replace HO := Lib.hid (on_new HO.out ho)); clear ho i0 i1 i2 i3 i4 i5 i6 i7 j0 j1 j2 j3 j4 j5 j6 j7 c9 c10; (obtain ⟨i0, i1, i2, i3, i4, i5, i6, i7⟩ := (HA5.out.only HO.out (Nat.not_le.2 HA5.out.lt)).eight); (obtain ⟨j0, j1, j2, j3, j4, j5, j6, j7⟩ := (HB5.out.only HO.out (Nat.not_le.2 HB5.out.lt)).eight); have c9 := (HC5.out.only HO.out (Nat.not_le.2 HC5.out.lt)).cell 9; have c10 := (HC5.out.only HO.out (Nat.not_le.2 HC5.out.lt)).cell 10; simp only [List.getElem?_cons_succ, List.getElem?_cons_zero] at c9 c10) | (go_at_call 8; (with_reducible refine (HR1.out _ HO.out).mono ?_); rintro e wa ⟨rfl, ho⟩; (replace HO := Lib.hid (on_new HO.out ho)); clear ho i0 i1 i2 i3 i4 i5 i6 i7 j0 j1 j2 j3 j4 j5 j6 j7 c9 c10; (obtain ⟨i0, i1, i2, i3, i4, i5, i6, i7⟩ := (HA5.out.only HO.out (Nat.not_le.2 HA5.out.lt)).eight); (obtain ⟨j0, j1, j2, j3, j4, j5, j6, j7⟩ := (HB5.out.only HO.out (Nat.not_le.2 HB5.out.lt)).eight); have c9 := (HC5.out.only HO.out (Nat.not_le.2 HC5.out.lt)).cell 9; have c10 := (HC5.out.only HO.out (Nat.not_le.2 HC5.out.lt)).cell 10; simp only [List.getElem?_cons_succ, List.getElem?_cons_zero] at c9 c10) | (go_at_call 8; (with_reducible refine (HR2.out _ HO.out).mono ?_); rintro e wa ⟨rfl, ho⟩; (replace HO := Lib.hid (on_new HO.out ho)); clear ho i0 i1 i2 i3 i4 i5 i6 i7 j0 j1 j2 j3 j4 j5 j6 j7 c9 c10; (obtain ⟨i0, i1, i2, i3, i4, i5, i6, i7⟩ := (HA5.out.only HO.out (Nat.not_le.2 HA5.out.lt)).eight); (obtain ⟨j0, j1, j2, j3, j4, j5, j6, j7⟩ := (HB5.out.only HO.out (Nat.not_le.2 HB5.out.lt)).eight); have c9 := (HC5.out.only HO.out (Nat.not_le.2 HC5.out.lt)).cell 9; have c10 := (HC5.out.only HO.out (Nat.not_le.2 HC5.out.lt)).cell 10; simp only [List.getElem?_cons_succ, List.getElem?_cons_zero] at c9 c10))
  clear c9 c10 HF1 HF2 HF3 HR1 HR2 HAL
  obtain ⟨w6, hw6⟩ : ∃ W0, W0 = wa.alloc (.cells #[.int .i64 g, .int .i64 ph, .int .i64 t, .int .i64 (kx : Nat), .int .i64 r, .int .i64 (N : Nat), .int .i64 l, .slice A n c] 25) := ⟨_, rfl⟩
  obtain ⟨w7, hw7⟩ : ∃ W0, W0 = w6.setCell ⟨wa.heap.size, 3, none⟩ (.int .i64 (k1 : Nat)) := ⟨_, rfl⟩
  have HO6 : Hid (Only (wa.heap.size ≤ ·) wa w6) := Lib.hid (by rw [hw6]; exact (Only.refl _ wa).alloc (fun _ h => h) _)
  have HO67 : Hid (Only (· = wa.heap.size) w6 w7) := Lib.hid (by rw [hw7]; exact (Only.refl (· = wa.heap.size) w6).setCell (p := ⟨wa.heap.size, 3, none⟩) rfl _)
  have HA6 : Hid (Blk wa w.heap.size 25 [.int .i64 g, .int .i64 ph, .int .i64 t, .int .i64 (kx : Nat), .int .i64 r, .int .i64 (N : Nat), .int .i64 l, .slice A n c]) := Lib.hid (HA5.out.only HO.out (Nat.not_le.2 HA5.out.lt))
  have HB6 : Hid (Blk wa b9 25 [.int .i64 g', .int .i64 ph', .int .i64 t', .int .i64 (k1 : Nat), .int .i64 r', .int .i64 (N' : Nat), .int .i64 l', .slice BA m e]) := Lib.hid (HB5.out.only HO.out (Nat.not_le.2 HB5.out.lt))
  have HC6 : Hid (Blk wa b5 52 [.slice IA im ic, .int .i64 g', .int .i64 ph', .int .i64 t', .int .i64 x2, .int .i64 r', .int .i64 (N' : Nat), .int .i64 l', .slice BA m e, .int .i64 fz, .slice KA kn kc]) := Lib.hid (HC5.out.only HO.out (Nat.not_le.2 HC5.out.lt))
  have HN6 : Hid (Blk w6 wa.heap.size 25 [.int .i64 g, .int .i64 ph, .int .i64 t, .int .i64 (kx : Nat), .int .i64 r, .int .i64 (N : Nat), .int .i64 l, .slice A n c]) := Lib.hid (by rw [hw6]; exact Blk.new wa 25 _)
  have HA7 : Hid (Blk w7 w.heap.size 25 [.int .i64 g, .int .i64 ph, .int .i64 t, .int .i64 (kx : Nat), .int .i64 r, .int .i64 (N : Nat), .int .i64 l, .slice A n c]) := Lib.hid ((HA6.out.only HO6.out (Nat.not_le.2 HA6.out.lt)).only HO67.out (fun h9 => by have h8 := HA6.out.lt; omega))
  have HB7 : Hid (Blk w7 b9 25 [.int .i64 g', .int .i64 ph', .int .i64 t', .int .i64 (k1 : Nat), .int .i64 r', .int .i64 (N' : Nat), .int .i64 l', .slice BA m e]) := Lib.hid ((HB6.out.only HO6.out (Nat.not_le.2 HB6.out.lt)).only HO67.out (fun h9 => by have h8 := HB6.out.lt; omega))
  have HC7 : Hid (Blk w7 b5 52 [.slice IA im ic, .int .i64 g', .int .i64 ph', .int .i64 t', .int .i64 x2, .int .i64 r', .int .i64 (N' : Nat), .int .i64 l', .slice BA m e, .int .i64 fz, .slice KA kn kc]) := Lib.hid ((HC6.out.only HO6.out (Nat.not_le.2 HC6.out.lt)).only HO67.out (fun h9 => by have h8 := HC6.out.lt; omega))
  have HN7 : Hid (Blk w7 wa.heap.size 25 [.int .i64 g, .int .i64 ph, .int .i64 t, .int .i64 (k1 : Nat), .int .i64 r, .int .i64 (N : Nat), .int .i64 l, .slice A n c]) := Lib.hid (by rw [hw7]; exact HN6.out.set_ 3 (.int .i64 (k1 : Nat)))
  have HOW7 : Hid (Only (w.heap.size ≤ ·) w w7) := Lib.hid ((on_new (on_new HOB.out HO.out) HO6.out).trans (HO67.out.mono fun k hk => by rw [hk]; exact (on_new HOB.out HO.out).size))
  have HE6 := Lib.hid hw6
  have HE7 := Lib.hid hw7
  clear hw6 hw7
  go_upto_region 7 with (fail)
  rw [← HE6.out]
  clear i0 i1 i2 i3 i4 i5 i6 i7 j0 j1 j2 j3 j4 j5 j6 j7
  have j3 : w6.cell? ⟨b9, 3, none⟩ = some (.int .i64 (k1 : Nat)) := (HB6.out.only HO6.out (Nat.not_le.2 HB6.out.lt)).cell 3
  have n3 : w6.cell? ⟨wa.heap.size, 3, none⟩ = some (.int .i64 (kx : Nat)) := HN6.out.cell 3
  have z3 := HN6.out.frozen 3
  go_upto_region 8 with (fail)
  rw [← HE7.out]
  clear j3 n3 z3 HE6 HE7 HO6 HO67 HA6 HB6 HC6 HN6 HA5 HB5 HC5 HO HOB
  generalize hb10 : wa.heap.size = b10 at HN7 ⊢
  clear hb10
  have HR3 := Lib.hid (fun W (hW : Only (w7.heap.size ≤ ·) w7 W) => HR30 W (on_new HOW7.out hW))
  have HAL7 := Lib.hid (fun W (hW : Only (w7.heap.size ≤ ·) w7 W) => HAL80 W (on_new HOW7.out hW))
  clear HR30 HAL80
  have HO7 : Hid (Only (w7.heap.size ≤ ·) w7 w7) := Lib.hid (Only.refl _ w7)
  obtain ⟨n0, n1, n2, n3, n4, n5, n6, n7⟩ := HN7.out.eight
  go_upto_region 10 with (go_at_call 8; (with_reducible refine (HR3.out _ HO7.out).mono ?_); rintro e9 wb ⟨rfl, ho⟩; (replace HO7 := Lib.hid (on_new HO7.out ho)); clear ho)
  clear n0 n1 n2 n3 n4 n5 n6 n7 HR3
  have HG7 := Lib.hid (HG.out.later HOW7.out)
  have HSX := Lib.hid (HS.out.later HOW7.out)
  have HSY := Lib.hid (HS'.out.later HOW7.out)
  have HWA := Lib.hid (Rw.later HW.out HOW7.out)
  have HWB := Lib.hid (Rw.later HW'.out HOW7.out)
  have HKL := Lib.hid (Rw.later HK.out HOW7.out)
  have KA_ : Hid (∀ W : World, Only (w7.heap.size ≤ ·) w7 W → (fun W : World => W.cell? ⟨w.heap.size, 0, none⟩ = some (.int .i64 g) ∧ W.cell? ⟨w.heap.size, 1, none⟩ = some (.int .i64 ph) ∧ W.cell? ⟨w.heap.size, 2, none⟩ = some (.int .i64 t) ∧ W.cell? ⟨w.heap.size, 3, none⟩ = some (.int .i64 (kx : Nat)) ∧ W.cell? ⟨w.heap.size, 4, none⟩ = some (.int .i64 r) ∧ W.cell? ⟨w.heap.size, 5, none⟩ = some (.int .i64 (N : Nat)) ∧ W.cell? ⟨w.heap.size, 6, none⟩ = some (.int .i64 l) ∧ W.cell? ⟨w.heap.size, 7, none⟩ = some (.slice A n c)) W) := Lib.hid (fun W hW => (HA7.out.only hW (Nat.not_le.2 HA7.out.lt)).eight)
  have KB : Hid (∀ W : World, Only (w7.heap.size ≤ ·) w7 W → (fun W : World => W.cell? ⟨b9, 0, none⟩ = some (.int .i64 g') ∧ W.cell? ⟨b9, 1, none⟩ = some (.int .i64 ph') ∧ W.cell? ⟨b9, 2, none⟩ = some (.int .i64 t') ∧ W.cell? ⟨b9, 3, none⟩ = some (.int .i64 (k1 : Nat)) ∧ W.cell? ⟨b9, 4, none⟩ = some (.int .i64 r') ∧ W.cell? ⟨b9, 5, none⟩ = some (.int .i64 (N' : Nat)) ∧ W.cell? ⟨b9, 6, none⟩ = some (.int .i64 l') ∧ W.cell? ⟨b9, 7, none⟩ = some (.slice BA m e)) W) := Lib.hid (fun W hW => (HB7.out.only hW (Nat.not_le.2 HB7.out.lt)).eight)
  have KN : Hid (∀ W : World, Only (w7.heap.size ≤ ·) w7 W → (fun W : World => W.cell? ⟨b10, 0, none⟩ = some (.int .i64 g) ∧ W.cell? ⟨b10, 1, none⟩ = some (.int .i64 ph) ∧ W.cell? ⟨b10, 2, none⟩ = some (.int .i64 t) ∧ W.cell? ⟨b10, 3, none⟩ = some (.int .i64 (k1 : Nat)) ∧ W.cell? ⟨b10, 4, none⟩ = some (.int .i64 r) ∧ W.cell? ⟨b10, 5, none⟩ = some (.int .i64 (N : Nat)) ∧ W.cell? ⟨b10, 6, none⟩ = some (.int .i64 l) ∧ W.cell? ⟨b10, 7, none⟩ = some (.slice A n c)) W) := Lib.hid (fun W hW => (HN7.out.only hW (Nat.not_le.2 HN7.out.lt)).eight)
  have KC : Hid (∀ W : World, Only (w7.heap.size ≤ ·) w7 W → W.cell? ⟨b5, 9, none⟩ = some (.int .i64 fz) ∧ W.cell? ⟨b5, 10, none⟩ = some (.slice KA kn kc)) := Lib.hid (fun W hW => ⟨(HC7.out.only hW (Nat.not_le.2 HC7.out.lt)).cell 9, (HC7.out.only hW (Nat.not_le.2 HC7.out.lt)).cell 10⟩)
  go_upto_region 11 with (go_at_call 10; (with_reducible refine (DNew_d _ 400).mono ?_); rintro e9 w8 ⟨dp, D, rfl, hd, h0, ho⟩; have HD5 := Lib.hid hd; have HN5 : Hid (∀ k', D k' → w7.heap.size ≤ k') := Lib.hid (fun k' hk' => Nat.le_trans HO7.out.size (h0 k' hk')); (replace HO7 := Lib.hid (on_new HO7.out ho)); clear hd h0 ho)
  go_upto_region 12 with (go_at_call 11; (with_reducible refine (PgNew_c _ dp _ D HD5.out).mono ?_); rintro e9 w9 ⟨q, rfl, hp, ho⟩; have HE : Hid (Env w7 w9 q dp (Dk.Dsk.load [] 400) D) := Lib.hid ⟨hp, HN5.out, on_new HO7.out ho⟩; clear hp ho)
  clear HD5 HN5 HO7
  obtain ⟨i0, i1, i2, i3, i4, i5, i6, i7⟩ := KA_.out _ HE.out.only
  have HFM := Lib.hid (show Calls _ _ _ _ _ from by have h9 := PgFormat_c w9 q dp _ _ HE.out.at_ (HG7.out.later HE.out.only) g ph t kx r N l A n c xs (HSX.out.later HE.out.only) HNX.out HMO.out none 0 0 [] srw_nil (by omega) (fun y hy => nomatch hy) HRM0.out; rw [HQ0.out] at h9; exact h9)
  go_upto_region 14 with (go_at_call 23; (with_reducible refine HFM.out.mono ?_); rintro e9 w10 ⟨rfl, hg⟩; (obtain ⟨D10, he9, _, _⟩ := HE.out.gave hg); (replace HE := Lib.hid he9); clear he9 hg)
  clear HFM i0 i1 i2 i3 i4 i5 i6 i7
  obtain ⟨c9, c10⟩ := KC.out _ HE.out.only
  go_upto_region 15 with (go_at_call 24; (with_reducible refine (Arm_d _ dp _ _ HE.out.at_.dat fz HFZ.out).mono ?_); rintro e9 w11 ⟨rfl, hg⟩; (obtain ⟨D11, he9, _, _⟩ := HE.out.dgave hg); (replace HE := Lib.hid he9); clear he9 hg)
  clear c9 c10
  have HV0 : Hid (Only (w11.heap.size ≤ ·) w11 w11.drew) := Lib.hid ((Only.refl _ w11).drew)
  have HSV := Lib.hid (KB.out _ (on_new HE.out.only HV0.out))
  refine wp_region_list (B := [false, false, false, false, false, false]) (S := (fun W : World => W.cell? ⟨b9, 0, none⟩ = some (.int .i64 g') ∧ W.cell? ⟨b9, 1, none⟩ = some (.int .i64 ph') ∧ W.cell? ⟨b9, 2, none⟩ = some (.int .i64 t') ∧ W.cell? ⟨b9, 3, none⟩ = some (.int .i64 (k1 : Nat)) ∧ W.cell? ⟨b9, 4, none⟩ = some (.int .i64 r') ∧ W.cell? ⟨b9, 5, none⟩ = some (.int .i64 (N' : Nat)) ∧ W.cell? ⟨b9, 6, none⟩ = some (.int .i64 l') ∧ W.cell? ⟨b9, 7, none⟩ = some (.slice BA m e))) (by kernel_rfl) (by kernel_rfl) (by kernel_rfl) HSV.out (fun hsel hHeld => ?_)
  generalize hwz : World.drew _ = wv0 at HV0 HSV hHeld ⊢
  clear hwz
  refine oneA 0 98 hsel (h := ?_)
  simp only [Act.put, List.setIfInBounds_toArray, List.set_cons_zero, List.set_cons_succ]
  refine oneA 1 99 hsel (h := ?_)
  simp only [Act.put, List.setIfInBounds_toArray, List.set_cons_zero, List.set_cons_succ]
  refine oneA 3 101 hsel (h := ?_)
  simp only [Act.put, List.setIfInBounds_toArray, List.set_cons_zero, List.set_cons_succ]
  refine wpAnyL_ready (rs := [2]) (by kernel_rfl) (by kernel_rfl) (by simp) ?_
  refine AllReadyL.cons (o := ?_) ?_ (fun K hK => ?_) AllReadyL.nil
  case refine_2 => (simp only [List.getElem?_cons_succ, List.getElem?_cons_zero]; rfl)
  go_simp
  (go_at_call 13; (with_reducible refine (of_0 w7 _ RA rn rc ws HWA.out (on_new HE.out.only HV0.out) (by omega)).mono ?_); rintro e9 wv1 ⟨R, tt, C, rfl, hden, hown, ho⟩; have HV1 := Lib.hid (on_new HV0.out ho); have HSR : Hid (SRw wrE _ wv1 (.slice R rn tt) ws) := Lib.hid (srw_of hden hown HLA.out (fun k' hk' => ⟨HE.out.new k' hk', Nat.lt_of_lt_of_le (HE.out.off k' hk') HV0.out.size⟩) (on_new HE.out.only HV1.out)); clear hden hown ho)
  go_wp2_with (fail)
  clear hHeld
  refine hK.out _ _ (KB.out _ (on_new HE.out.only HV1.out)) (fun hHeld => ?_)
  clear hK K
  try simp only [Act.put, List.setIfInBounds_toArray, List.set_cons_zero, List.set_cons_succ]
  refine wpAnyL_ready (rs := [4]) (by kernel_rfl) (by kernel_rfl) (by simp) ?_
  refine AllReadyL.cons (o := ?_) ?_ (fun K hK => ?_) AllReadyL.nil
  case refine_2 => (simp only [List.getElem?_cons_succ, List.getElem?_cons_zero]; rfl)
  have HCM := Lib.hid (show Calls _ _ _ _ _ from by have h9 := PgCommit_c wv1 q dp _ _ (HE.out.later HV1.out).at_ (HG7.out.later (on_new HE.out.only HV1.out)) g' ph' t' k1 r' N' l' BA m e ys (HSY.out.later (on_new HE.out.only HV1.out)) HNY.out HMY.out R rn tt ws HSR.out (by omega) (fun y hy => (HIA.out y hy).2) HRM1.out; rw [HQ1.out] at h9; exact h9)
  go_simp
  (go_at_call 12; (with_reducible refine HCM.out.mono ?_); rintro e9 wv2 ⟨rfl, hg⟩; have HGV := Lib.hid hg; clear hg)
  go_wp2_with (fail)
  clear hHeld
  refine hK.out _ _ (KB.out _ (gave_only (HE.out.later HV1.out) HGV.out)) (fun hHeld => ?_)
  clear hK K
  try simp only [Act.put, List.setIfInBounds_toArray, List.set_cons_zero, List.set_cons_succ]
  refine oneA 5 13 hsel (h := ?_)
  simp only [Act.put, List.setIfInBounds_toArray, List.set_cons_zero, List.set_cons_succ]
  refine wpAnyL_done (by kernel_rfl) (by kernel_rfl) ?_ _
  clear hsel hHeld
  obtain ⟨D12, he9, _, _⟩ := (HE.out.later HV1.out).gave HGV.out
  replace HE := Lib.hid he9
  clear he9 HV1 HGV HSR HCM HV0 HSV
  generalize wv2 = w12 at HE ⊢
  obtain ⟨c9, c10⟩ := KC.out _ HE.out.only
  go_upto_region 17 with (go_at_call 25; (with_reducible refine (Crash_d _ dp _ _ HE.out.at_.dat HRW1.out KA kn kc kl (Rw.later HKL.out HE.out.only) (fun ad e1 h1 h2 => by have h3 := HKO.out ad e1 h1; have h4 := HE.out.new _ h2; have h5 := HOW7.out.size; omega) (by omega)).mono ?_); rintro e9 w13 ⟨rfl, hg⟩; (obtain ⟨D13, he9, _, _⟩ := HE.out.dgave hg); (replace HE := Lib.hid he9); clear he9 hg c9 c10)
  rcases HOR.out with h1 | ⟨h1, HRS⟩
  · subst h1
    go_wp2_with (go_at_call 9; (with_reducible refine (HAL7.out _ HE.out.only).mono ?_); rintro e9 w14 ⟨rfl, ho⟩; (replace HE := Lib.hid (HE.out.later ho)); clear ho)
    go_ret
    exact ⟨rfl, on_new HOW7.out HE.out.only⟩
  subst h1
  have HRS := Lib.hid HRS
  obtain ⟨c9, c10⟩ := KC.out _ HE.out.only
  have qz : Int.tdiv fz 2 = hz := HHZ.out
  have qw : wrap64 hz = hz := IntWalk.wrap64_in _ HHB.out
  go_upto_region 20 with (go_at_call 24; (with_reducible refine (Arm_d _ dp _ _ HE.out.at_.dat hz HHB.out.2).mono ?_); rintro e9 w14 ⟨rfl, hg⟩; (obtain ⟨D14, he9, _, _⟩ := HE.out.dgave hg); (replace HE := Lib.hid he9); clear he9 hg)
  clear c9 c10 qz qw
  have HV0 : Hid (Only (w14.heap.size ≤ ·) w14 w14.drew) := Lib.hid ((Only.refl _ w14).drew)
  have HSV := Lib.hid (KN.out _ (on_new HE.out.only HV0.out))
  refine wp_region_list (B := [false, false, false, false, false, false]) (S := (fun W : World => W.cell? ⟨b10, 0, none⟩ = some (.int .i64 g) ∧ W.cell? ⟨b10, 1, none⟩ = some (.int .i64 ph) ∧ W.cell? ⟨b10, 2, none⟩ = some (.int .i64 t) ∧ W.cell? ⟨b10, 3, none⟩ = some (.int .i64 (k1 : Nat)) ∧ W.cell? ⟨b10, 4, none⟩ = some (.int .i64 r) ∧ W.cell? ⟨b10, 5, none⟩ = some (.int .i64 (N : Nat)) ∧ W.cell? ⟨b10, 6, none⟩ = some (.int .i64 l) ∧ W.cell? ⟨b10, 7, none⟩ = some (.slice A n c))) (by kernel_rfl) (by kernel_rfl) (by kernel_rfl) HSV.out (fun hsel hHeld => ?_)
  generalize hwz : World.drew _ = wv0 at HV0 HSV hHeld ⊢
  clear hwz
  refine oneA 0 115 hsel (h := ?_)
  simp only [Act.put, List.setIfInBounds_toArray, List.set_cons_zero, List.set_cons_succ]
  refine oneA 1 116 hsel (h := ?_)
  simp only [Act.put, List.setIfInBounds_toArray, List.set_cons_zero, List.set_cons_succ]
  refine oneA 3 118 hsel (h := ?_)
  simp only [Act.put, List.setIfInBounds_toArray, List.set_cons_zero, List.set_cons_succ]
  refine wpAnyL_ready (rs := [2]) (by kernel_rfl) (by kernel_rfl) (by simp) ?_
  refine AllReadyL.cons (o := ?_) ?_ (fun K hK => ?_) AllReadyL.nil
  case refine_2 => (simp only [List.getElem?_cons_succ, List.getElem?_cons_zero]; rfl)
  go_simp
  (go_at_call 13; (with_reducible refine (of_0 w7 _ RB sn sc vs HWB.out (on_new HE.out.only HV0.out) (by omega)).mono ?_); rintro e9 wv1 ⟨R, tt, C, rfl, hden, hown, ho⟩; have HV1 := Lib.hid (on_new HV0.out ho); have HSR : Hid (SRw wrE _ wv1 (.slice R sn tt) vs) := Lib.hid (srw_of hden hown HLB.out (fun k' hk' => ⟨HE.out.new k' hk', Nat.lt_of_lt_of_le (HE.out.off k' hk') HV0.out.size⟩) (on_new HE.out.only HV1.out)); clear hden hown ho)
  go_wp2_with (fail)
  clear hHeld
  refine hK.out _ _ (KN.out _ (on_new HE.out.only HV1.out)) (fun hHeld => ?_)
  clear hK K
  try simp only [Act.put, List.setIfInBounds_toArray, List.set_cons_zero, List.set_cons_succ]
  refine wpAnyL_ready (rs := [4]) (by kernel_rfl) (by kernel_rfl) (by simp) ?_
  refine AllReadyL.cons (o := ?_) ?_ (fun K hK => ?_) AllReadyL.nil
  case refine_2 => (simp only [List.getElem?_cons_succ, List.getElem?_cons_zero]; rfl)
  have HCM := Lib.hid (show Calls _ _ _ _ _ from by have h9 := PgCommit_c wv1 q dp _ _ (HE.out.later HV1.out).at_ (HG7.out.later (on_new HE.out.only HV1.out)) g ph t k1 r N l A n c xs (HSX.out.later (on_new HE.out.only HV1.out)) HNX.out HMX.out R sn tt vs HSR.out (by omega) (fun y hy => (HIB.out y hy).2) HRM2.out; rw [HQ2.out] at h9; exact h9)
  go_simp
  (go_at_call 12; (with_reducible refine HCM.out.mono ?_); rintro e9 wv2 ⟨rfl, hg⟩; have HGV := Lib.hid hg; clear hg)
  go_wp2_with (fail)
  clear hHeld
  refine hK.out _ _ (KN.out _ (gave_only (HE.out.later HV1.out) HGV.out)) (fun hHeld => ?_)
  clear hK K
  try simp only [Act.put, List.setIfInBounds_toArray, List.set_cons_zero, List.set_cons_succ]
  refine oneA 5 14 hsel (h := ?_)
  simp only [Act.put, List.setIfInBounds_toArray, List.set_cons_zero, List.set_cons_succ]
  refine wpAnyL_done (by kernel_rfl) (by kernel_rfl) ?_ _
  clear hsel hHeld
  obtain ⟨D15, he9, _, _⟩ := (HE.out.later HV1.out).gave HGV.out
  replace HE := Lib.hid he9
  clear he9 HV1 HGV HSR HCM HV0 HSV
  generalize wv2 = w21 at HE ⊢
  obtain ⟨ib, hi0, hz0, hz1, hz2⟩ := info_parts info_Bo
  have HIB1 := Lib.hid (And.intro hi0 (And.intro hz0 (And.intro hz1 hz2)))
  clear hi0 hz0 hz1 hz2
  have HBF := Lib.hid (boE_facts HKL.out)
  have HAL21 : Hid (Only (w21.heap.size ≤ ·) w21 (w21.alloc (.cells #[.bool true] 4))) := Lib.hid ((Only.refl _ w21).alloc (fun _ h => h) _)
  obtain ⟨c9, c10⟩ := KC.out _ (on_new HE.out.only HAL21.out)
  go_upto_region 22 with (first
    | (refine wpList_append_row rfl (.tmp 121) (.tmp 123) 50 rfl w21.heap.size 4 ib zBo 1 1 Tryd.underlying50 HIB1.out.1 HIB1.out.2.1 HIB1.out.2.2.1 HIB1.out.2.2.2 (by rfl) (by omega) (.slice (some ⟨w21.heap.size, 0, none⟩) 1 1) 1 [.bool true] rfl (own_lit w21 4 (.bool true)) KA kn kc (cbo kl) rfl HBF.out.1 HBF.out.2.1 (fun ad e1 j u hu => cell_later (HBF.out.2.2 ad e1 j u hu) (on_new HE.out.only HAL21.out)) (cbo_one kl) (by simp only [maxLen]; omega) (by omega) (by simp) ?_; intro v' w22 ho' hg' hat'; (obtain ⟨g22, t22, rfl, hgb⟩ := own_form ho' (by omega)); have HKR : Hid (Rw boE w22 (.slice (some ⟨g22, 0, none⟩) (1 + kn) t22) (true :: kl)) := Lib.hid (own_bools ho' HBF.out.2.1); have HGB := Lib.hid hgb; have HO22 : Hid (Only (w21.heap.size ≤ ·) w21 w22) := Lib.hid ((grow_only hg').mono fun j hj => hj.elim (fun e1 => Nat.le_of_eq (Option.some.inj e1)) fun h => h); have HE22 := Lib.hid (HE.out.later HO22.out); clear ho' hg' hat' hgb c9 c10)
    | (go_at_call 25; (with_reducible refine (Crash_d _ dp _ _ HE22.out.at_.dat HRW3.out (some ⟨g22, 0, none⟩) (1 + kn) t22 (true :: kl) HKR.out (fun ad e1 h1 h2 => by cases e1; have h3 : D15 g22 := h2; have h4 := HE.out.off _ h3; have h5 := HGB.out; omega) (by omega)).mono ?_); rintro e9 w23 ⟨rfl, hg⟩; (obtain ⟨D23, he9, _, _⟩ := HE22.out.dgave hg); (replace HE := Lib.hid he9); clear he9 hg))
  clear HE22 HKR HGB HO22 HAL21 HBF HIB1
  obtain ⟨G, PH, T, X1, R0, P, L, XS, S, hnw, hcase⟩ := HRS.out
  obtain ⟨nn, hnn⟩ : ∃ z, z = XS.length := ⟨_, rfl⟩
  obtain ⟨io, hio⟩ : ∃ z, (decide ([G, PH, T, X1, R0, P, L] = [g, ph, t, (kx : Int), r, (N : Int), l]) && decide (XS = xs)) = z := ⟨_, rfl⟩
  obtain ⟨jf, hjf⟩ : ∃ z, (decide ([G, PH, T, X1, R0, P, L] = [g', ph', t', (k1 : Int), r', (N' : Int), l']) && decide (XS = ys)) = z := ⟨_, rfl⟩
  obtain ⟨kn_, hkn_⟩ : ∃ z, (decide ([G, PH, T, X1, R0, P, L] = [g, ph, t, (k1 : Int), r, (N : Int), l]) && decide (XS = xs)) = z := ⟨_, rfl⟩
  rw [hio, hjf, hkn_] at hcase
  have HNW := Lib.hid hnw
  have HNN := Lib.hid hnn
  have HIO := Lib.hid hio
  have HJF := Lib.hid hjf
  have HKN_ := Lib.hid hkn_
  have HCS := Lib.hid hcase
  clear hnw hnn hio hjf hkn_ hcase HRS
  go_upto_region 23 with (go_at_call 19; (with_reducible refine (new_at _ q dp _ _ HE.out.at_ (HG7.out.later HE.out.only) HNN.out HNW.out).mono ?_); rintro e9 w24 ⟨AX, cX, rfl, hn, ho⟩; have HSN : Hid (Src w24 (.slice AX nn cX) XS) := Lib.hid hn.src; (replace HE := Lib.hid (HE.out.later ho)); clear hn ho)
  obtain ⟨wI, hwI⟩ : ∃ z, z = w24.alloc (.cells #[.int .i64 G, .int .i64 PH, .int .i64 T, .int .i64 X1, .int .i64 R0, .int .i64 P, .int .i64 L, .slice AX nn cX] 36) := ⟨_, rfl⟩
  have HOI : Hid (Only (w24.heap.size ≤ ·) w24 wI) := Lib.hid (by rw [hwI]; exact (Only.refl _ w24).alloc (fun _ h => h) _)
  have HX : Hid (Blk wI w24.heap.size 36 [.int .i64 G, .int .i64 PH, .int .i64 T, .int .i64 X1, .int .i64 R0, .int .i64 P, .int .i64 L, .slice AX nn cX]) := Lib.hid (by rw [hwI]; exact Blk.new w24 36 _)
  rw [← hwI]
  clear hwI
  replace HE := Lib.hid (HE.out.later HOI.out)
  replace HSN := Lib.hid (HSN.out.later HOI.out)
  generalize w24.heap.size = bx at HX HOI ⊢
  clear HOI
  have HOZ : Hid (Only (w7.heap.size ≤ ·) w7 wI) := Lib.hid HE.out.only
  have KQ : Hid (∀ W : World, Only (wI.heap.size ≤ ·) wI W → (fun W : World => W.cell? ⟨bx, 0, none⟩ = some (.int .i64 G) ∧ W.cell? ⟨bx, 1, none⟩ = some (.int .i64 PH) ∧ W.cell? ⟨bx, 2, none⟩ = some (.int .i64 T) ∧ W.cell? ⟨bx, 3, none⟩ = some (.int .i64 X1) ∧ W.cell? ⟨bx, 4, none⟩ = some (.int .i64 R0) ∧ W.cell? ⟨bx, 5, none⟩ = some (.int .i64 P) ∧ W.cell? ⟨bx, 6, none⟩ = some (.int .i64 L) ∧ W.cell? ⟨bx, 7, none⟩ = some (.slice AX nn cX) ∧ W.cell? ⟨w.heap.size, 0, none⟩ = some (.int .i64 g) ∧ W.cell? ⟨w.heap.size, 1, none⟩ = some (.int .i64 ph) ∧ W.cell? ⟨w.heap.size, 2, none⟩ = some (.int .i64 t) ∧ W.cell? ⟨w.heap.size, 3, none⟩ = some (.int .i64 (kx : Nat)) ∧ W.cell? ⟨w.heap.size, 4, none⟩ = some (.int .i64 r) ∧ W.cell? ⟨w.heap.size, 5, none⟩ = some (.int .i64 (N : Nat)) ∧ W.cell? ⟨w.heap.size, 6, none⟩ = some (.int .i64 l) ∧ W.cell? ⟨w.heap.size, 7, none⟩ = some (.slice A n c) ∧ W.cell? ⟨b9, 0, none⟩ = some (.int .i64 g') ∧ W.cell? ⟨b9, 1, none⟩ = some (.int .i64 ph') ∧ W.cell? ⟨b9, 2, none⟩ = some (.int .i64 t') ∧ W.cell? ⟨b9, 3, none⟩ = some (.int .i64 (k1 : Nat)) ∧ W.cell? ⟨b9, 4, none⟩ = some (.int .i64 r') ∧ W.cell? ⟨b9, 5, none⟩ = some (.int .i64 (N' : Nat)) ∧ W.cell? ⟨b9, 6, none⟩ = some (.int .i64 l') ∧ W.cell? ⟨b9, 7, none⟩ = some (.slice BA m e) ∧ W.cell? ⟨b10, 0, none⟩ = some (.int .i64 g) ∧ W.cell? ⟨b10, 1, none⟩ = some (.int .i64 ph) ∧ W.cell? ⟨b10, 2, none⟩ = some (.int .i64 t) ∧ W.cell? ⟨b10, 3, none⟩ = some (.int .i64 (k1 : Nat)) ∧ W.cell? ⟨b10, 4, none⟩ = some (.int .i64 r) ∧ W.cell? ⟨b10, 5, none⟩ = some (.int .i64 (N : Nat)) ∧ W.cell? ⟨b10, 6, none⟩ = some (.int .i64 l) ∧ W.cell? ⟨b10, 7, none⟩ = some (.slice A n c)) W) := Lib.hid (fun W hW => by
    obtain ⟨a0, a1, a2, a3, a4, a5, a6, a7⟩ := (HX.out.only hW (Nat.not_le.2 HX.out.lt)).eight
    obtain ⟨i0, i1, i2, i3, i4, i5, i6, i7⟩ := KA_.out W (on_new HOZ.out hW)
    obtain ⟨j0, j1, j2, j3, j4, j5, j6, j7⟩ := KB.out W (on_new HOZ.out hW)
    obtain ⟨n0, n1, n2, n3, n4, n5, n6, n7⟩ := KN.out W (on_new HOZ.out hW)
    exact ⟨a0, a1, a2, a3, a4, a5, a6, a7, i0, i1, i2, i3, i4, i5, i6, i7, j0, j1, j2, j3, j4, j5, j6, j7, n0, n1, n2, n3, n4, n5, n6, n7⟩)
  have HS_O : Hid (∀ W, Only (wI.heap.size ≤ ·) wI W → Calls Tryd.prog 22 #[.agg #[.int .i64 G, .int .i64 PH, .int .i64 T, .int .i64 X1, .int .i64 R0, .int .i64 P, .int .i64 L, .slice AX nn cX], .agg #[.int .i64 g, .int .i64 ph, .int .i64 t, .int .i64 (kx : Nat), .int .i64 r, .int .i64 (N : Nat), .int .i64 l, .slice A n c]] W (Told W (.bool io))) := Lib.hid (fun W hW => by
    have h9 := rmSame_c W G PH T X1 R0 P L g ph t kx r N l AX A nn cX n c XS xs (HSN.out.later hW) (HSX.out.later (on_new HOZ.out hW))
    rwa [HIO.out] at h9)
  have HS_F : Hid (∀ W, Only (wI.heap.size ≤ ·) wI W → Calls Tryd.prog 22 #[.agg #[.int .i64 G, .int .i64 PH, .int .i64 T, .int .i64 X1, .int .i64 R0, .int .i64 P, .int .i64 L, .slice AX nn cX], .agg #[.int .i64 g', .int .i64 ph', .int .i64 t', .int .i64 (k1 : Nat), .int .i64 r', .int .i64 (N' : Nat), .int .i64 l', .slice BA m e]] W (Told W (.bool jf))) := Lib.hid (fun W hW => by
    have h9 := rmSame_c W G PH T X1 R0 P L g' ph' t' k1 r' N' l' AX BA nn cX m e XS ys (HSN.out.later hW) (HSY.out.later (on_new HOZ.out hW))
    rwa [HJF.out] at h9)
  have HS_N : Hid (∀ W, Only (wI.heap.size ≤ ·) wI W → Calls Tryd.prog 22 #[.agg #[.int .i64 G, .int .i64 PH, .int .i64 T, .int .i64 X1, .int .i64 R0, .int .i64 P, .int .i64 L, .slice AX nn cX], .agg #[.int .i64 g, .int .i64 ph, .int .i64 t, .int .i64 (k1 : Nat), .int .i64 r, .int .i64 (N : Nat), .int .i64 l, .slice A n c]] W (Told W (.bool kn_))) := Lib.hid (fun W hW => by
    have h9 := rmSame_c W G PH T X1 R0 P L g ph t k1 r N l AX A nn cX n c XS xs (HSN.out.later hW) (HSX.out.later (on_new HOZ.out hW))
    rwa [HKN_.out] at h9)
  have HQ0w : Hid (Only (wI.heap.size ≤ ·) wI wI.drew) := Lib.hid ((Only.refl _ wI).drew)
  have HSQ := Lib.hid (KQ.out _ HQ0w.out)
  go_upto_region 23 with (fail)
  refine wp_region_list (B := [false, false, false, false, false, false, false, false, false, false, false, false]) (S := (fun W : World => W.cell? ⟨bx, 0, none⟩ = some (.int .i64 G) ∧ W.cell? ⟨bx, 1, none⟩ = some (.int .i64 PH) ∧ W.cell? ⟨bx, 2, none⟩ = some (.int .i64 T) ∧ W.cell? ⟨bx, 3, none⟩ = some (.int .i64 X1) ∧ W.cell? ⟨bx, 4, none⟩ = some (.int .i64 R0) ∧ W.cell? ⟨bx, 5, none⟩ = some (.int .i64 P) ∧ W.cell? ⟨bx, 6, none⟩ = some (.int .i64 L) ∧ W.cell? ⟨bx, 7, none⟩ = some (.slice AX nn cX) ∧ W.cell? ⟨w.heap.size, 0, none⟩ = some (.int .i64 g) ∧ W.cell? ⟨w.heap.size, 1, none⟩ = some (.int .i64 ph) ∧ W.cell? ⟨w.heap.size, 2, none⟩ = some (.int .i64 t) ∧ W.cell? ⟨w.heap.size, 3, none⟩ = some (.int .i64 (kx : Nat)) ∧ W.cell? ⟨w.heap.size, 4, none⟩ = some (.int .i64 r) ∧ W.cell? ⟨w.heap.size, 5, none⟩ = some (.int .i64 (N : Nat)) ∧ W.cell? ⟨w.heap.size, 6, none⟩ = some (.int .i64 l) ∧ W.cell? ⟨w.heap.size, 7, none⟩ = some (.slice A n c) ∧ W.cell? ⟨b9, 0, none⟩ = some (.int .i64 g') ∧ W.cell? ⟨b9, 1, none⟩ = some (.int .i64 ph') ∧ W.cell? ⟨b9, 2, none⟩ = some (.int .i64 t') ∧ W.cell? ⟨b9, 3, none⟩ = some (.int .i64 (k1 : Nat)) ∧ W.cell? ⟨b9, 4, none⟩ = some (.int .i64 r') ∧ W.cell? ⟨b9, 5, none⟩ = some (.int .i64 (N' : Nat)) ∧ W.cell? ⟨b9, 6, none⟩ = some (.int .i64 l') ∧ W.cell? ⟨b9, 7, none⟩ = some (.slice BA m e) ∧ W.cell? ⟨b10, 0, none⟩ = some (.int .i64 g) ∧ W.cell? ⟨b10, 1, none⟩ = some (.int .i64 ph) ∧ W.cell? ⟨b10, 2, none⟩ = some (.int .i64 t) ∧ W.cell? ⟨b10, 3, none⟩ = some (.int .i64 (k1 : Nat)) ∧ W.cell? ⟨b10, 4, none⟩ = some (.int .i64 r) ∧ W.cell? ⟨b10, 5, none⟩ = some (.int .i64 (N : Nat)) ∧ W.cell? ⟨b10, 6, none⟩ = some (.int .i64 l) ∧ W.cell? ⟨b10, 7, none⟩ = some (.slice A n c))) (by kernel_rfl) (by kernel_rfl) (by kernel_rfl) HSQ.out (fun hsel hHeld => ?_)
  generalize hwz : World.drew _ = wq0 at HQ0w HSQ hHeld ⊢
  clear hwz
  refine oneA 0 132 hsel (h := ?_)
  simp only [Act.put, List.setIfInBounds_toArray, List.set_cons_zero, List.set_cons_succ]
  refine oneA 1 133 hsel (h := ?_)
  simp only [Act.put, List.setIfInBounds_toArray, List.set_cons_zero, List.set_cons_succ]
  refine oneA 3 135 hsel (h := ?_)
  simp only [Act.put, List.setIfInBounds_toArray, List.set_cons_zero, List.set_cons_succ]
  refine oneA 4 136 hsel (h := ?_)
  simp only [Act.put, List.setIfInBounds_toArray, List.set_cons_zero, List.set_cons_succ]
  refine oneA 6 138 hsel (h := ?_)
  simp only [Act.put, List.setIfInBounds_toArray, List.set_cons_zero, List.set_cons_succ]
  refine oneA 7 139 hsel (h := ?_)
  simp only [Act.put, List.setIfInBounds_toArray, List.set_cons_zero, List.set_cons_succ]
  refine wpAnyL_ready (rs := [2]) (by kernel_rfl) (by kernel_rfl) (by simp) ?_
  refine AllReadyL.cons (o := ?_) ?_ (fun K hK => ?_) AllReadyL.nil
  case refine_2 => (simp only [List.getElem?_cons_succ, List.getElem?_cons_zero]; rfl)
  go_simp
  (go_at_call 22; (with_reducible refine (HS_O.out _ HQ0w.out).mono ?_); rintro e9 wq1 ⟨rfl, ho⟩; have HQ1w := Lib.hid (on_new HQ0w.out ho); clear ho)
  go_wp2_with (fail)
  clear hHeld
  refine hK.out _ _ (KQ.out _ HQ1w.out) (fun hHeld => ?_)
  clear hK K
  try simp only [Act.put, List.setIfInBounds_toArray, List.set_cons_zero, List.set_cons_succ]
  refine wpAnyL_ready (rs := [5]) (by kernel_rfl) (by kernel_rfl) (by simp) ?_
  refine AllReadyL.cons (o := ?_) ?_ (fun K hK => ?_) AllReadyL.nil
  case refine_2 => (simp only [List.getElem?_cons_succ, List.getElem?_cons_zero]; rfl)
  go_simp
  (go_at_call 22; (with_reducible refine (HS_F.out _ HQ1w.out).mono ?_); rintro e9 wq2 ⟨rfl, ho⟩; have HQ2w := Lib.hid (on_new HQ1w.out ho); clear ho)
  go_wp2_with (fail)
  clear hHeld
  refine hK.out _ _ (KQ.out _ HQ2w.out) (fun hHeld => ?_)
  clear hK K
  try simp only [Act.put, List.setIfInBounds_toArray, List.set_cons_zero, List.set_cons_succ]
  refine wpAnyL_ready (rs := [8]) (by kernel_rfl) (by kernel_rfl) (by simp) ?_
  refine AllReadyL.cons (o := ?_) ?_ (fun K hK => ?_) AllReadyL.nil
  case refine_2 => (simp only [List.getElem?_cons_succ, List.getElem?_cons_zero]; rfl)
  go_simp
  (go_at_call 22; (with_reducible refine (HS_N.out _ HQ2w.out).mono ?_); rintro e9 wq3 ⟨rfl, ho⟩; have HQ3w := Lib.hid (on_new HQ2w.out ho); clear ho)
  go_wp2_with (fail)
  clear hHeld
  refine hK.out _ _ (KQ.out _ HQ3w.out) (fun hHeld => ?_)
  clear hK K
  try simp only [Act.put, List.setIfInBounds_toArray, List.set_cons_zero, List.set_cons_succ]
  refine oneA 9 18 hsel (h := ?_)
  simp only [Act.put, List.setIfInBounds_toArray, List.set_cons_zero, List.set_cons_succ]
  refine oneA 10 19 hsel (h := ?_)
  simp only [Act.put, List.setIfInBounds_toArray, List.set_cons_zero, List.set_cons_succ]
  refine oneA 11 20 hsel (h := ?_)
  simp only [Act.put, List.setIfInBounds_toArray, List.set_cons_zero, List.set_cons_succ]
  refine wpAnyL_done (by kernel_rfl) (by kernel_rfl) ?_ _
  clear hsel hHeld
  have HOF := Lib.hid (on_new HOZ.out HQ3w.out)
  rcases HCS.out with ⟨h1, h2⟩ | ⟨h1, h2⟩
  · subst h1 h2
    go_wp2_with (go_at_call 9; (with_reducible refine (HAL7.out _ HOF.out).mono ?_); rintro e9 w30 ⟨rfl, ho⟩; have HOG := Lib.hid (on_new HOF.out ho); clear ho)
    go_ret
    exact ⟨rfl, on_new HOW7.out HOG.out⟩
  subst h1
  rcases h2 with h2 | h2 | h2
  · subst h2
    go_wp2_with (go_at_call 9; (with_reducible refine (HAL7.out _ HOF.out).mono ?_); rintro e9 w30 ⟨rfl, ho⟩; have HOG := Lib.hid (on_new HOF.out ho); clear ho)
    go_ret
    exact ⟨rfl, on_new HOW7.out HOG.out⟩
  · subst h2
    cases io
    · go_wp2_with (go_at_call 9; (with_reducible refine (HAL7.out _ HOF.out).mono ?_); rintro e9 w30 ⟨rfl, ho⟩; have HOG := Lib.hid (on_new HOF.out ho); clear ho)
      go_ret
      exact ⟨rfl, on_new HOW7.out HOG.out⟩
    · go_wp2_with (go_at_call 9; (with_reducible refine (HAL7.out _ HOF.out).mono ?_); rintro e9 w30 ⟨rfl, ho⟩; have HOG := Lib.hid (on_new HOF.out ho); clear ho)
      go_ret
      exact ⟨rfl, on_new HOW7.out HOG.out⟩
  · subst h2
    cases io
    · cases jf
      · go_wp2_with (go_at_call 9; (with_reducible refine (HAL7.out _ HOF.out).mono ?_); rintro e9 w30 ⟨rfl, ho⟩; have HOG := Lib.hid (on_new HOF.out ho); clear ho)
        go_ret
        exact ⟨rfl, on_new HOW7.out HOG.out⟩
      · go_wp2_with (go_at_call 9; (with_reducible refine (HAL7.out _ HOF.out).mono ?_); rintro e9 w30 ⟨rfl, ho⟩; have HOG := Lib.hid (on_new HOF.out ho); clear ho)
        go_ret
        exact ⟨rfl, on_new HOW7.out HOG.out⟩
    · cases jf
      · go_wp2_with (go_at_call 9; (with_reducible refine (HAL7.out _ HOF.out).mono ?_); rintro e9 w30 ⟨rfl, ho⟩; have HOG := Lib.hid (on_new HOF.out ho); clear ho)
        go_ret
        exact ⟨rfl, on_new HOW7.out HOG.out⟩
      · go_wp2_with (go_at_call 9; (with_reducible refine (HAL7.out _ HOF.out).mono ?_); rintro e9 w30 ⟨rfl, ho⟩; have HOG := Lib.hid (on_new HOF.out ho); clear ho)
        go_ret
        exact ⟨rfl, on_new HOW7.out HOG.out⟩
end Go.Proofs.YtopaponemjaenaaDoor
