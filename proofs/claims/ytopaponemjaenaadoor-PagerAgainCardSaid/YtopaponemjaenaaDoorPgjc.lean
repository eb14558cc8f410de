/-
  PagerAgain: the arguments, the law.
-/
import Derived.Test.YtopaponemjaenaaDoorPgjb
import Derived.Test.YtopaponemjaenaaDoorPgar
set_option linter.unusedVariables false
namespace Go.Proofs.YtopaponemjaenaaDoor
open Go.ChangeShapes Go.WideShapes Go.ChangeAt Go.RowKit Go.Deep

section
variable {H : Type} {enc : TypeId × Value → H} {w : World}
set_option maxRecDepth 100000 in
theorem meta_open {fuel : Nat} {cs : List Value} {x : DataW H × List MemPlace} (hcl : cs.length = 8) (h : DataW.trod enc Tryd.prog w 0 (fun _ => true) true fuel 25 cs = some x) :
    ∃ (g ph t x r pg l : Int) (A : Option Addr) (n c : Nat) (xs : Bytes), cs = [.int .i64 g, .int .i64 ph, .int .i64 t, .int .i64 x, .int .i64 r, .int .i64 pg, .int .i64 l, .slice A n c] ∧ xs.length = n ∧ Src w (.slice A n c) xs ∧ ∀ u ∈ [g, ph, t, x, r, pg, l], I64 u := by
  obtain ⟨ys, n', _, _, _, hyl, hg⟩ := DataW.trod_struct Tryd.underlying25 h
  have c3 : Tryd.prog.cellsOf 3 = 1 := by kernel_rfl
  have c25 : Tryd.prog.cellsOf 23 = 1 := by kernel_rfl
  have hl : cs.length = 8 := hcl
  have hyl' : ys.length = 8 := hyl
  obtain ⟨y0, y1, y2, y3, y4, y5, y6, y7, rfl⟩ : ∃ y0 y1 y2 y3 y4 y5 y6 y7, ys = [y0, y1, y2, y3, y4, y5, y6, y7] := by
    match ys, hyl' with
    | [y0, y1, y2, y3, y4, y5, y6, y7], _ => exact ⟨y0, y1, y2, y3, y4, y5, y6, y7, rfl⟩
  have t0 : DataW.trod enc Tryd.prog w 0 (fun _ => true) true n' 3 ((cs.drop 0).take (Tryd.prog.cellsOf 3)) = some y0 := hg 0 _ rfl
  have t1 : DataW.trod enc Tryd.prog w 0 (fun _ => true) true n' 3 ((cs.drop 1).take (Tryd.prog.cellsOf 3)) = some y1 := hg 1 _ rfl
  have t2 : DataW.trod enc Tryd.prog w 0 (fun _ => true) true n' 3 ((cs.drop 2).take (Tryd.prog.cellsOf 3)) = some y2 := hg 2 _ rfl
  have t3 : DataW.trod enc Tryd.prog w 0 (fun _ => true) true n' 3 ((cs.drop 3).take (Tryd.prog.cellsOf 3)) = some y3 := hg 3 _ rfl
  have t4 : DataW.trod enc Tryd.prog w 0 (fun _ => true) true n' 3 ((cs.drop 4).take (Tryd.prog.cellsOf 3)) = some y4 := hg 4 _ rfl
  have t5 : DataW.trod enc Tryd.prog w 0 (fun _ => true) true n' 3 ((cs.drop 5).take (Tryd.prog.cellsOf 3)) = some y5 := hg 5 _ rfl
  have t6 : DataW.trod enc Tryd.prog w 0 (fun _ => true) true n' 3 ((cs.drop 6).take (Tryd.prog.cellsOf 3)) = some y6 := hg 6 _ rfl
  have t7 : DataW.trod enc Tryd.prog w 0 (fun _ => true) true n' 23 ((cs.drop 7).take (Tryd.prog.cellsOf 23)) = some y7 := hg 7 _ rfl
  rw [c3] at t0 t1 t2 t3 t4 t5 t6
  rw [c25] at t7
  obtain ⟨a0, e0, h0⟩ := int_open t0
  obtain ⟨a1, e1, h1⟩ := int_open t1
  obtain ⟨a2, e2, h2⟩ := int_open t2
  obtain ⟨a3, e3, h3⟩ := int_open t3
  obtain ⟨a4, e4, h4⟩ := int_open t4
  obtain ⟨a5, e5, h5⟩ := int_open t5
  obtain ⟨a6, e6, h6⟩ := int_open t6
  obtain ⟨A, n, c, xs, e7, hx, sx, _⟩ := bytes_open t7
  refine ⟨a0, a1, a2, a3, a4, a5, a6, A, n, c, xs, ?_, hx, sx, ?_⟩
  · have s : cs = (cs.drop 0).take 1 ++ ((cs.drop 1).take 1 ++ ((cs.drop 2).take 1 ++ ((cs.drop 3).take 1 ++ ((cs.drop 4).take 1 ++ ((cs.drop 5).take 1 ++ ((cs.drop 6).take 1 ++ (cs.drop 7).take 1)))))) := by
      generalize cs = l at hl
      match l, hl with
      | [_, _, _, _, _, _, _, _], _ => rfl
    rw [e0, e1, e2, e3, e4, e5, e6, e7] at s
    exact s
  · intro u hu
    simp only [List.mem_cons, List.not_mem_nil, or_false] at hu
    rcases hu with rfl | rfl | rfl | rfl | rfl | rfl | rfl
    · exact h0
    · exact h1
    · exact h2
    · exact h3
    · exact h4
    · exact h5
    · exact h6
theorem okWide_array' {P : Program} {w : World} {q : Reach} {base : Nat} {t e : TypeId} {n : Nat} {v : Value} (ht : P.underlying t = some (.array n e)) (h : Value.okWide P w q base t v) : ∃ cs, v = .agg cs ∧ cs.size = P.cellsOf t := by
  simp only [Value.okWide, ht] at h
  obtain ⟨cs, h1, h2, _⟩ := h
  exact ⟨cs, h1, h2⟩
set_option maxRecDepth 100000 in
theorem twoW_arg {base : Nat} {v : Value} {d : DataW H} {p : List MemPlace} (hv : Value.okWide Tryd.prog w .any base 49 v) (h : DataW.Trod enc Tryd.prog w 0 (fun _ => true) true 49 v d p) (hq : ∀ q ∈ d.weights Tryd.prog 49, q ≤ reachBytes) :
    ∃ (A B : Option Addr) (n c m k : Nat) (xs ys : List Wt), v = .agg #[.slice A n c, .slice B m k] ∧ Wts w (.slice A n c) xs ∧ Wts w (.slice B m k) ys ∧ (∀ y ∈ xs, OkY y) ∧ ∀ y ∈ ys, OkY y := by
  obtain ⟨fuel, hf⟩ := h
  obtain ⟨cs, rfl, hsz⟩ := okWide_array' Tryd.underlying49 hv
  rw [show Tryd.prog.cellsOf 49 = 2 by kernel_rfl] at hsz
  obtain ⟨ys, n', _, hx, hcl, hyl, hg⟩ := DataW.trod_array Tryd.underlying49 (show DataW.trod enc Tryd.prog w 0 (fun _ => true) true fuel 49 cs.toList = some (d, p) by simpa [Value.cells] using hf)
  rw [show Tryd.prog.cellsOf 22 = 1 by kernel_rfl] at hg
  have hl : cs.toList.length = 2 := by simpa using hsz
  have hd : d = .agg (ys.map (·.1)) := congrArg Prod.fst hx
  have each : ∀ i, i < 2 → ∃ (A : Option Addr) (n c : Nat) (xs : List Wt), (cs.toList.drop (i * 1)).take 1 = [.slice A n c] ∧ Wts w (.slice A n c) xs ∧ ∀ y ∈ xs, OkY y := fun i hi => by
    obtain ⟨y, hy⟩ : ∃ y, ys[i]? = some y := ⟨_, List.getElem?_eq_getElem (by omega)⟩
    obtain ⟨A, n, c, xs, e, hs, _, hz⟩ := rw_open wrE OkY Tryd.underlying22 (by kernel_rfl) (by decide) (fun hc hh => wt_open hc hh) ((hg i hi).trans hy)
    refine ⟨A, n, c, xs, e, hs, (hz fun q h => hq q ?_).2⟩
    rw [hd]
    simp only [DataW.weights, Tryd.underlying49]
    exact weightsAll_mem (d := y.1) (List.mem_map_of_mem (List.mem_of_getElem? hy)) q h
  obtain ⟨A, n, c, xs, e0, h0, o0⟩ := each 0 (by decide)
  obtain ⟨B, m, k, zs, e1, h1, o1⟩ := each 1 (by decide)
  refine ⟨A, B, n, c, m, k, xs, zs, ?_, h0, h1, o0, o1⟩
  have s : cs.toList = (cs.toList.drop (0 * 1)).take 1 ++ (cs.toList.drop (1 * 1)).take 1 := by
    generalize cs.toList = l at hl
    match l, hl with
    | [_, _], _ => rfl
  rw [e0, e1] at s
  congr 1
  exact Array.toList_inj.1 s
theorem bool_open {fuel : Nat} {cs : List Value} {x : DataW H × List MemPlace} (hcl : cs.length = 1) (h : DataW.trod enc Tryd.prog w 0 (fun _ => true) true fuel 4 cs = some x) : ∃ y, boE.At w y cs ∧ ((∀ q ∈ x.1.weights Tryd.prog 4, q ≤ reachBytes) → True) := by
  obtain ⟨b, e, _⟩ := DataW.trod_bool Tryd.underlying4 h
  exact ⟨b, e, fun _ => trivial⟩
set_option maxRecDepth 100000 in
theorem crash_arg {base : Nat} {v : Value} {d : DataW H} {p : List MemPlace} (hv : Value.okWide Tryd.prog w .any base 52 v) (h : DataW.Trod enc Tryd.prog w 0 (fun _ => true) true 52 v d p) :
    ∃ (IA : Option Addr) (im ic : Nat) (g ph t x r pg l : Int) (A : Option Addr) (n c : Nat) (xs : Bytes) (fz : Int) (KA : Option Addr) (kn kc : Nat) (kl : List Bool), v = .agg #[.slice IA im ic, .int .i64 g, .int .i64 ph, .int .i64 t, .int .i64 x, .int .i64 r, .int .i64 pg, .int .i64 l, .slice A n c, .int .i64 fz, .slice KA kn kc]
      ∧ xs.length = n ∧ Src w (.slice A n c) xs ∧ (∀ u ∈ [g, ph, t, x, r, pg, l], I64 u) ∧ I64v fz ∧ Rw boE w (.slice KA kn kc) kl := by
  obtain ⟨fuel, hf⟩ := h
  obtain ⟨cs, rfl, hsz⟩ := okWide_struct Tryd.underlying52 hv
  rw [show Tryd.prog.cellsOf 52 = 11 by kernel_rfl] at hsz
  obtain ⟨ys, n', _, _, _, hyl, hg⟩ := DataW.trod_struct Tryd.underlying52 (show DataW.trod enc Tryd.prog w 0 (fun _ => true) true fuel 52 cs.toList = some (d, p) by simpa [Value.cells] using hf)
  have hl : cs.toList.length = 11 := by simpa using hsz
  have hyl' : ys.length = 4 := hyl
  obtain ⟨y0, y1, y2, y3, rfl⟩ : ∃ y0 y1 y2 y3, ys = [y0, y1, y2, y3] := by
    match ys, hyl' with
    | [y0, y1, y2, y3], _ => exact ⟨y0, y1, y2, y3, rfl⟩
  have t0 : DataW.trod enc Tryd.prog w 0 (fun _ => true) true n' 23 ((cs.toList.drop 0).take (Tryd.prog.cellsOf 23)) = some y0 := hg 0 _ rfl
  have t1 : DataW.trod enc Tryd.prog w 0 (fun _ => true) true n' 25 ((cs.toList.drop 1).take (Tryd.prog.cellsOf 25)) = some y1 := hg 1 _ rfl
  have t2 : DataW.trod enc Tryd.prog w 0 (fun _ => true) true n' 3 ((cs.toList.drop 9).take (Tryd.prog.cellsOf 3)) = some y2 := hg 2 _ rfl
  have t3 : DataW.trod enc Tryd.prog w 0 (fun _ => true) true n' 50 ((cs.toList.drop 10).take (Tryd.prog.cellsOf 50)) = some y3 := hg 3 _ rfl
  rw [show Tryd.prog.cellsOf 23 = 1 by kernel_rfl] at t0
  rw [show Tryd.prog.cellsOf 25 = 8 by kernel_rfl] at t1
  rw [show Tryd.prog.cellsOf 3 = 1 by kernel_rfl] at t2
  rw [show Tryd.prog.cellsOf 50 = 1 by kernel_rfl] at t3
  obtain ⟨IA, im, ic, _, e0, _⟩ := bytes_open t0
  obtain ⟨g, ph, t, x, r, pg, l, A, n, c, xs, e1, hx, sx, hi⟩ := meta_open (by rw [List.length_take, List.length_drop, hl]; rfl) t1
  obtain ⟨fz, e2, hfz⟩ := int_open t2
  obtain ⟨KA, kn, kc, kl, e3, hk, _⟩ := rw_open boE (fun _ => True) Tryd.underlying50 (by kernel_rfl) (by decide) (fun hc hh => bool_open hc hh) t3
  refine ⟨IA, im, ic, g, ph, t, x, r, pg, l, A, n, c, xs, fz, KA, kn, kc, kl, ?_, hx, sx, hi, hfz, hk⟩
  have s : cs.toList = (cs.toList.drop 0).take 1 ++ ((cs.toList.drop 1).take 8 ++ ((cs.toList.drop 9).take 1 ++ (cs.toList.drop 10).take 1)) := by
    generalize cs.toList = l at hl
    match l, hl with
    | [_, _, _, _, _, _, _, _, _, _, _], _ => rfl
  rw [e0, e1, e2, e3] at s
  congr 1
  exact Array.toList_inj.1 s
end
theorem i64_of {g ph t x r p l y : Int} (h : ∀ u ∈ [g, ph, t, x, r, p, l], I64 u) (hy : I64 y) : ∀ u ∈ [g, ph, t, y, r, p, l], I64 u := fun u hu => by
  simp only [List.mem_cons, List.not_mem_nil, or_false] at hu
  rcases hu with rfl | rfl | rfl | rfl | rfl | rfl | rfl
  · exact h _ (by simp)
  · exact h _ (by simp)
  · exact h _ (by simp)
  · exact hy
  · exact h _ (by simp)
  · exact h _ (by simp)
  · exact h _ (by simp)
theorem not_false_ {b : Bool} (h : ¬ b = false) : b = true := by
  rw [← Bool.not_eq_false]
  exact h
theorem pagain_c (w : World) (hG : Gens w) (g ph t x r p l : Int) (A : Option Addr) (n c : Nat) (IA : Option Addr) (im ic : Nat) (g' ph' t' x2 r' p' l' : Int) (BA : Option Addr) (m e : Nat) (fz : Int) (KA : Option Addr) (kn kc : Nat) (RA : Option Addr) (rn rc : Nat) (ws : List Wt) (RB : Option Addr) (sn sc : Nat) (vs : List Wt) (h : Wts w (.slice RA rn rc) ws) (h' : Wts w (.slice RB sn sc) vs) (hsum : ∀ y ∈ ws, y.2.length ≤ 140737488355328) (hsum' : ∀ y ∈ vs, y.2.length ≤ 140737488355328) (hI : ∀ y ∈ ws, I64v y.1) (hI' : ∀ y ∈ vs, I64v y.1) (xs ys : Bytes) (kl : List Bool) (hs : Src w (.slice A n c) xs) (hne : n = xs.length) (hs' : Src w (.slice BA m e) ys) (hne' : m = ys.length) (hK : Rw boE w (.slice KA kn kc) kl) (hM : ∀ u ∈ [g, ph, t, x, r, p, l], I64 u) (hM' : ∀ u ∈ [g', ph', t', x2, r', p', l'], I64 u) (hfz : I64v fz) : Calls Tryd.prog 6 #[.agg #[.int .i64 g, .int .i64 ph, .int .i64 t, .int .i64 x, .int .i64 r, .int .i64 p, .int .i64 l, .slice A n c], .agg #[.slice RA rn rc, .slice RB sn sc], .agg #[.slice IA im ic, .int .i64 g', .int .i64 ph', .int .i64 t', .int .i64 x2, .int .i64 r', .int .i64 p', .int .i64 l', .slice BA m e, .int .i64 fz, .slice KA kn kc]] w (Told w (.bool true)) := by
  by_cases hc : fewP ws p' m = false ∨ fewP vs p' m = false ∨ fewP [] p n = false ∨ x < 2 ∨ 200 < (kn : Int) ∨ 1000 < fz ∨ pgRight (okM g' ph' t' (wrap64 (x + 1)) r' p' l' m) p' ws = false ∨ pgRight (okM g ph t x r p l n) p [] = false
  · exact pagain_early w hG g ph t x r p l A n c IA im ic g' ph' t' x2 r' p' l' BA m e fz KA kn kc RA rn rc ws RB sn sc vs h h' hsum hsum' hI hI' (wrap64 (x + 1)) rfl hc
  simp only [not_or] at hc
  obtain ⟨h1, h2, h3, h4, h5, h6, h7, h8⟩ := hc
  have h1 := not_false_ h1
  have h2 := not_false_ h2
  have h3 := not_false_ h3
  have h7 := not_false_ h7
  have h8 := not_false_ h8
  obtain ⟨N, kx, rfl, rfl, a1, a2, a3, a4⟩ := okM_facts (right_facts h8).1
  have h9 : wrap64 ((kx : Int) + 1) = ((kx + 1 : Nat) : Int) := by
    rw [IntWalk.wrap64_in _ (by omega)]
    omega
  rw [h9] at h7
  obtain ⟨N', k', rfl, b1, b2, b3, b4, b5⟩ := okM_facts (right_facts h7).1
  have i1 : I64 ((kx + 1 : Nat) : Int) := by unfold I64; omega
  obtain ⟨q3, hq3⟩ : ∃ z, pgRight (okM g ph t (kx + 1 : Nat) r N l n) N vs = z := ⟨_, rfl⟩
  cases q3 with
  | false => exact pagain_third w hG g ph t kx r N l A n c IA im ic g' ph' t' x2 r' N' l' BA m e fz KA kn kc RA rn rc ws RB sn sc vs h h' hsum hsum' hI hI' xs ys kl hs hne hs' hne' hK hM (i64_of hM i1) (i64_of hM' i1) hfz (by omega) (by omega) (by omega) (by omega) h1 h2 h3 h7 h8 hq3
  | true => exact pagain_main w hG g ph t kx r N l A n c IA im ic g' ph' t' x2 r' N' l' BA m e fz KA kn kc RA rn rc ws RB sn sc vs h h' hsum hsum' hI hI' xs ys kl hs hne hs' hne' hK hM (i64_of hM i1) (i64_of hM' i1) hfz (by omega) (by omega) (by omega) (by omega) h1 h2 h3 h7 h8 hq3
end Go.Proofs.YtopaponemjaenaaDoor
