/-
  Several texts, as one.
-/
import Derived.Test.YtbgnfocfnjlabaaDoorGk
import Derived.Test.YtbgnfocfnjlabaaDoorObk
import Derived.Test.YtbgnfocfnjlabaaDoorOal
/-
  What the program decodes of an image is what the document decodes: chains; plain.
-/
set_option linter.unusedVariables false
namespace Go.Proofs.YtbgnfocfnjlabaaDoor
open Go.RowKit

theorem ask_ok {img : Bytes} {x : Int} (h : pgOk img x = true) : askP (imgA img) x 1 = (0, pgB img x) := by
  have h1 := of_decide_eq_true h
  obtain ⟨i, rfl⟩ : ∃ i : Nat, x = (i : Int) := ⟨x.toNat, by omega⟩
  have := askP_img (img := img) (i := i) (n := 1) (by omega)
  rw [show ((1 : Nat) : Int) = 1 from rfl] at this
  rw [this]
  unfold pgB
  rw [if_pos h, Int.toNat_natCast]
theorem ask_no {img : Bytes} {x : Int} (h : ¬ pgOk img x = true) : askP (imgA img) x 1 = (11, []) := by
  have h1 : ¬ (0 ≤ x ∧ x < (img.length : Int) / 256) := fun h2 => h (decide_eq_true h2)
  have e : imgA img x 1 = (11, []) := by
    unfold imgA
    rw [if_pos (by omega)]
  unfold askP
  rw [e]
  rfl
theorem ask_zero {img : Bytes} {x : Int} : (askP (imgA img) x 1).1 = 0 ↔ pgOk img x = true := by
  by_cases h : pgOk img x = true
  · rw [ask_ok h]; simp [h]
  · rw [ask_no h]; simp [h]
section
variable {img : Bytes} {g : Int}
/-- A chain that is followed to its end: the document's numbers, and their pages. -/
theorem fol_some (hg : g ≠ 3) : ∀ (K : Nat) (x : Int) (lst : List (Int × Bytes)), pgOk img x = true → folP (imgA img) K (pgB img x) = some lst → idsD img g x (K + 1) = x :: lst.map (·.1) ∧ lst.map (·.2) = (lst.map (·.1)).map (pgB img) ∧ ∀ y ∈ lst.map (·.1), pgOk img y = true
  | 0, x, lst, hx, h => by
    obtain rfl : [] = lst := Option.some.inj h
    refine ⟨?_, rfl, fun y hy => by cases hy⟩
    rw [idsD, if_neg hg]
    split <;> simp [idsD]
  | K + 1, x, lst, hx, h => by
    unfold folP at h
    split at h <;> rename_i hb
    · unfold behP at hb h
      split at hb <;> rename_i hc
      · rw [if_pos hc] at h
        simp only [decide_eq_true_eq] at hb
        have hp := ask_zero.1 hb
        rw [ask_ok hp] at h
        obtain ⟨l2, h2, rfl⟩ := Option.map_eq_some_iff.1 h
        obtain ⟨i1, i2, i3⟩ := fol_some hg K _ l2 hp h2
        refine ⟨?_, ?_, ?_⟩
        · rw [idsD, if_neg hg, if_pos ⟨hx, hc.1⟩, i1]
          rfl
        · rw [List.map_cons, i2]
          rfl
        · intro y hy
          rcases List.mem_cons.1 hy with h3 | h3
          · rw [h3]; exact hp
          · exact i3 y h3
      · cases hb
    · cases h
/-- A chain that is not. -/
theorem fol_none (hg : g ≠ 3) : ∀ (K : Nat) (x : Int), pgOk img x = true → folP (imgA img) K (pgB img x) = none → (idsD img g x (K + 1)).length < K + 1 ∨ (∃ y ∈ idsD img g x (K + 1), ¬ pgOk img y = true) ∨ ∃ y ∈ idsD img g x (K + 1), isId y = false
  | 0, x, hx, h => by cases h
  | K + 1, x, hx, h => by
    rw [idsD, if_neg hg]
    by_cases he : hdE (pgB img x) = 0
    · rw [if_pos ⟨hx, he⟩]
      obtain ⟨y, hy⟩ : ∃ y : Int, y = (hdX (pgB img x) : Nat) := ⟨_, rfl⟩
      have hmem : y ∈ idsD img g y (K + 1) := by rw [idsD]; exact List.mem_cons_self ..
      by_cases hi : isId y = true
      · by_cases hp : pgOk img y = true
        · have hb : behP (imgA img) (pgB img x) = (y, pgB img y, true) := by
            unfold behP
            rw [if_pos ⟨he, by rw [← hy]; exact hi⟩, ← hy, ask_ok hp]
            rfl
          unfold folP at h
          rw [hb] at h
          simp only [if_true] at h
          have h2 : folP (imgA img) K (pgB img y) = none := by
            cases hf : folP (imgA img) K (pgB img y) with
            | none => rfl
            | some l => rw [hf] at h; cases h
          rw [← hy]
          rcases fol_none hg K y hp h2 with h3 | ⟨z, h3, h4⟩ | ⟨z, h3, h4⟩
          · left; simp only [List.length_cons]; omega
          · right; left; exact ⟨z, List.mem_cons_of_mem _ h3, h4⟩
          · right; right; exact ⟨z, List.mem_cons_of_mem _ h3, h4⟩
        · right; left
          rw [← hy]
          exact ⟨y, List.mem_cons_of_mem _ hmem, hp⟩
      · right; right
        rw [← hy]
        exact ⟨y, List.mem_cons_of_mem _ hmem, by simpa using hi⟩
    · left
      rw [if_neg fun h2 => he h2.2]
      simp only [List.length_cons, List.length_nil]
      omega
end
theorem flat_inj : ∀ {L M : List Bytes}, (∀ p ∈ L, p.length = 256) → (∀ p ∈ M, p.length = 256) → L.length = M.length → L.flatten = M.flatten → L = M
  | [], [], _, _, _, _ => rfl
  | [], _ :: _, _, _, h, _ => by simp at h
  | _ :: _, [], _, _, h, _ => by simp at h
  | p :: L, q :: M, hl, hm, h, e => by
    rw [List.flatten_cons, List.flatten_cons] at e
    have h1 := hl p (List.mem_cons_self ..)
    have h2 := hm q (List.mem_cons_self ..)
    obtain ⟨e1, e2⟩ := List.append_inj e (by rw [h1, h2])
    rw [e1, flat_inj (fun x hx => hl x (List.mem_cons_of_mem _ hx)) (fun x hx => hm x (List.mem_cons_of_mem _ hx)) (by simpa using h) e2]
theorem alD_flat (img : Bytes) (L : List Int) : alD img L = (L.map (pgB img)).flatten := by unfold alD; rw [List.flatMap_def]
/-- Where all pages are a chain's, what the two read is the same. -/
theorem body_same {img : Bytes} {g m : Nat} {v : Bytes} {L : List Int} (hg : g = 1 ∨ g = 2) (hm : (m : Int) = tr (g : Int) 248 240 240) (hl : ∀ x ∈ L, 2 ≤ x ∧ x < 16384) (h : L.map (pgB img) = linksB g v m L (List.range L.length)) : bodies (L.map (pgB img)) = vaD img g L := by
  have hm2 : (tr (g : Int) 248 240 240).toNat = m := by rw [← hm]; rfl
  have h16 : (tr (g : Int) 8 16 16).toNat = 256 - m := by rcases hg with rfl | rfl <;> simp only [tr] at hm ⊢ <;> simp at hm ⊢ <;> omega
  have hb : ∀ y ∈ L, bodyOf (pgB img y) = (pgB img y).drop (256 - m) := by
    intro y hy
    have hmem : pgB img y ∈ linksB g v m L (List.range L.length) := by rw [← h]; exact List.mem_map_of_mem hy
    rw [linksB_range] at hmem
    obtain ⟨k, _, hk⟩ := List.mem_map.1 hmem
    obtain ⟨f1, f2, f3, f4, _⟩ := (link_shape (g := g) (m := m) (v := v) (k := k) (j := k) hg hm hl).1.facts
    rw [← hk]
    unfold bodyOf
    rw [if_pos ⟨f4, f1⟩, f3, h16]
  unfold bodies vaD
  rw [if_neg (by omega), hm2, List.flatMap_map]
  rw [List.flatMap_def, List.flatMap_def]
  congr 1
  exact List.map_congr_left hb
end Go.Proofs.YtbgnfocfnjlabaaDoor

/-
  What the program decodes of an image is what the document decodes; plain.
-/
set_option linter.unusedVariables false
namespace Go.Proofs.YtbgnfocfnjlabaaDoor
open Go.RowKit

/-- What the document asks of the pages that were found. -/
def tellD (img : Bytes) (g : Int) (N : Nat) (L : List Int) : Bool := L.all (pgOk img) && (decide (N ≤ (vaD img g L).length) && (encOk g N L && decide ((encB g ((vaD img g L).take N) L).flatten = alD img L)))
theorem enc_len {g : Int} {N M : Nat} {L : List Int} (h : encOk g N L = true) (hM : manyP g N = (M : Int)) : L.length = M ∧ mayP g L = true := by
  unfold encOk at h
  simp only [Bool.and_eq_true, decide_eq_true_eq] at h
  exact ⟨by omega, h.2⟩
theorem chain_same {img : Bytes} {id : Int} {N g m M : Nat} {L : List Int} (hg : g = 1 ∨ g = 2) (hm : (m : Int) = tr (g : Int) 248 240 240) (hM : manyP g N = (M : Int)) (h1 : 1 ≤ M) (hok : pgOk img id = true) (hL : L = idsD img g id M) :
    (chR g m N id (pgB img id) (folP (imgA img) (M - 1) (pgB img id))).2.2 = tellD img g N L ∧ ((chR g m N id (pgB img id) (folP (imgA img) (M - 1) (pgB img id))).2.2 = true → (chR g m N id (pgB img id) (folP (imgA img) (M - 1) (pgB img id))).1 = (vaD img g L).take N ∧ (chR g m N id (pgB img id) (folP (imgA img) (M - 1) (pgB img id))).2.1 = L) := by
  have hg3 : (g : Int) ≠ 3 := by omega
  have hm2 : (tr (g : Int) 248 240 240).toNat = m := by rw [← hm]; rfl
  obtain ⟨K, rfl⟩ : ∃ K, M = K + 1 := ⟨M - 1, by omega⟩
  rw [Nat.add_sub_cancel]
  cases hf : folP (imgA img) K (pgB img id) with
  | none =>
    refine ⟨?_, fun h => by cases h⟩
    show false = _
    symm
    unfold tellD
    rcases fol_none hg3 K id hok hf with h | ⟨y, hy, h⟩ | ⟨y, hy, h⟩
    · have he : encOk g N L = false := by
        rw [Bool.eq_false_iff]
        intro e
        have := (enc_len e hM).1
        rw [hL] at this
        omega
      rw [he]; simp
    · have he : L.all (pgOk img) = false := by
        rw [Bool.eq_false_iff, Ne, List.all_eq_true]
        exact fun e => h (e y (by rw [hL]; exact hy))
      rw [he]; simp
    · have he : encOk g N L = false := by
        rw [Bool.eq_false_iff]
        intro e
        have := mayP_at (enc_len e hM).2 (x := y) (by rw [hL]; exact hy)
        rw [h] at this
        cases this
      rw [he]; simp
  | some lst =>
    obtain ⟨i1, i2, i3⟩ := fol_some hg3 K id lst hok hf
    rw [← hL] at i1
    have hpg : pgB img id :: lst.map (·.2) = L.map (pgB img) := by rw [i1, List.map_cons, i2]
    have hall : L.all (pgOk img) = true := List.all_eq_true.2 fun y hy => by
      rw [i1] at hy
      rcases List.mem_cons.1 hy with h | h
      · rw [h]; exact hok
      · exact i3 y h
    have hlen : lst.length + 1 = L.length := by rw [i1]; simp
    have henc : ∀ v, encB g v L = linksB g v m L (List.range L.length) := fun v => by unfold encB; rw [if_neg hg3, hm2]
    have hl256 : ∀ x ∈ L.map (pgB img), x.length = 256 := fun x hx => by
      obtain ⟨y, hy, rfl⟩ := List.mem_map.1 hx
      exact pgB_256 (List.all_eq_true.1 hall y hy)
    unfold chR tellD
    simp only
    rw [hpg, ← i1, hlen, hall, Bool.true_and, henc, alD_flat]
    by_cases e : encOk g N L = true
    · have hl := mayP_bound (enc_len e hM).2
      rw [e, Bool.true_and]
      by_cases ht : decide (N ≤ (vaD img g L).length) = true ∧ (linksB g ((vaD img g L).take N) m L (List.range L.length)).flatten = (L.map (pgB img)).flatten
      · obtain ⟨t1, t2⟩ := ht
        have hfl : linksB g ((vaD img g L).take N) m L (List.range L.length) = L.map (pgB img) := flat_inj (fun x hx => by
          rw [linksB_range] at hx
          obtain ⟨k, _, rfl⟩ := List.mem_map.1 hx
          exact (link_shape (g := g) hg hm hl).1.facts.1) hl256 (by rw [linksB_len, List.length_range, List.length_map]) t2
        have hb := body_same hg hm hl hfl.symm
        have t3 := of_decide_eq_true t1
        rw [hb, if_neg (by omega), t1, decide_eq_true hfl, decide_eq_true t2]
        exact ⟨rfl, fun _ => ⟨rfl, rfl⟩⟩
      · have hr : (decide (N ≤ (vaD img g L).length) && (true && decide ((linksB g ((vaD img g L).take N) m L (List.range L.length)).flatten = (L.map (pgB img)).flatten))) = false := by
          rw [Bool.eq_false_iff]
          intro h
          simp only [Bool.and_eq_true, Bool.true_and] at h
          exact ht ⟨h.1, of_decide_eq_true h.2⟩
        rw [hr]
        by_cases hbl : (bodies (L.map (pgB img))).length < N
        · rw [if_pos hbl]; exact ⟨rfl, fun h => by cases h⟩
        · rw [if_neg hbl]
          have hne : ¬ linksB g ((bodies (L.map (pgB img))).take N) m L (List.range L.length) = L.map (pgB img) := fun h => by
            have hb := body_same hg hm hl h.symm
            rw [hb] at h hbl
            exact ht ⟨decide_eq_true (by omega), by rw [h]⟩
          rw [decide_eq_false hne]
          exact ⟨rfl, fun h => by cases h⟩
    · have e0 : encOk g N L = false := by simpa using e
      simp only [e0, Bool.false_and, Bool.and_false]
      split
      · exact ⟨rfl, fun h => by cases h⟩
      · exact ⟨rfl, fun h => by cases h⟩
theorem idsD_ext (img : Bytes) : ∀ (M : Nat) (id : Int), idsD img 3 id M = idsX id M
  | 0, _ => rfl
  | M + 1, id => by
    rw [idsD, if_pos rfl, idsD_ext img M (id + 1)]
    unfold idsX
    rw [List.range_succ_eq_map, List.map_cons, List.map_map]
    congr 1
    · simp
    · apply List.map_congr_left
      intro k _
      simp only [Function.comp]
      push_cast
      omega
theorem clr_take {b : Bytes} (h : 8 ≤ b.length) : (clrB b).take 4 = b.take 4 := by
  unfold clrB
  exact List.take_left' (by rw [List.length_take]; omega)
theorem clr_eight {b : Bytes} (h : 8 ≤ b.length) : (clrB b).drop 8 = b.drop 8 := by
  unfold clrB
  rw [← List.append_assoc]
  exact List.drop_left' (by rw [List.length_append, List.length_take]; simp; omega)
theorem clr_put {b : Bytes} (h : 8 ≤ b.length) : put4 (clrB b) 4 = put4 b 4 := by
  unfold put4 oth
  rw [show (4 : Nat) + 4 = 8 from rfl, clr_take h, clr_eight h]
theorem clr_drop {b : Bytes} (h : 16 ≤ b.length) : (clrB b).drop 16 = b.drop 16 := by
  rw [show (16 : Nat) = 8 + 8 from rfl, ← List.drop_drop, ← List.drop_drop, clr_eight (by omega)]
set_option maxRecDepth 100000 in
/-- Of an extent's bytes: as the program asks, and as the document does. -/
theorem ext_core {b : Bytes} {N M : Nat} {L : List Int} (hM : manyP 3 N = (M : Int)) (h1 : 1 ≤ M) (hb : b.length = M * 256) (hl : L.length = M) :
    (extW N M b L).2.2 = decide ((encB 3 ((b.drop 16).take N) L).flatten = b) ∧ ((extW N M b L).2.2 = true → (extW N M b L).1 = (b.drop 16).take N ∧ (extW N M b L).2.1 = L) := by
  obtain ⟨h33, h1600, h7, hNM, hNM2⟩ := manyP_ext hM h1
  obtain ⟨v, hv⟩ : ∃ v, v = (b.drop 16).take N := ⟨_, rfl⟩
  have hvl : v.length = N := by rw [hv, List.length_take, List.length_drop]; omega
  obtain ⟨f1, f2, f3, f4, _⟩ := extE_facts (v := v) (M := M) (by rw [hvl]; exact hM) h1
  have he : (encB 3 v L).flatten = extE v M := by unfold encB; rw [if_pos rfl, hl]; exact extB_flat f1
  unfold extW
  rw [clr_drop (by omega), ← hv, he]
  by_cases hs : isSealed b 4 = true
  · rw [if_pos hs]
    have hp : put4 b 4 = b := by
      have := same_put4 b 4 (by omega)
      rw [show (((4 : Nat) : Int)) = 4 from rfl, hs] at this
      exact (of_decide_eq_true this.symm).symm
    have hiff : clrB b = bareB v M ↔ extE v M = b := by
      constructor
      · intro h
        have hlen : (bareB v M).length = M * 256 := by rw [← h, clrB_len b (by omega), hb]
        unfold extE sealB
        rw [if_pos (by simp only [rm4, decide_eq_true_eq]; omega), ← h, show (4 : Int).toNat = 4 from rfl, clr_put (by omega), hp]
      · intro h
        rw [← f3, h]
    refine ⟨?_, fun _ => ⟨rfl, rfl⟩⟩
    simp only
    rw [decide_eq_decide]
    exact hiff
  · rw [if_neg hs]
    refine ⟨?_, fun h => by cases h⟩
    symm
    exact decide_eq_false fun h => hs (by rw [← h]; exact f2)
set_option maxRecDepth 100000 in
theorem alD_ids {img : Bytes} {i : Nat} (M : Nat) (h : (i + M) * 256 ≤ img.length) : alD img (idsX i M) = (img.drop (i * 256)).take (M * 256) := by
  induction M with
  | zero =>
    rw [Nat.zero_mul, List.take_zero]
    rfl
  | succ M ih =>
    have h2 : alD img (idsX i (M + 1)) = alD img (idsX i M) ++ pgB img ((i : Int) + (M : Int)) := by
      rw [idsX_succ]
      unfold alD
      rw [List.flatMap_append]
      simp only [List.flatMap_cons, List.flatMap_nil, List.append_nil]
    have hp : pgOk img ((i : Int) + (M : Int)) = true := decide_eq_true (by omega)
    have hs : (M + 1) * 256 = M * 256 + 256 := by omega
    have hn : ((i : Int) + (M : Int)).toNat * 256 = i * 256 + M * 256 := by omega
    have hg : pgB img ((i : Int) + (M : Int)) = ((img.drop (i * 256)).drop (M * 256)).take 256 := by
      unfold pgB
      rw [if_pos hp, hn, List.drop_drop]
    rw [h2, ih (by omega), hs, List.take_add, hg]
set_option maxRecDepth 100000 in
theorem ext_same {img : Bytes} {id : Int} {N M : Nat} {L : List Int} (hM : manyP 3 N = (M : Int)) (h1 : 1 ≤ M) (hok : pgOk img id = true) (hL : L = idsD img 3 id M) :
    (extR (imgA img) id M N (pgB img id)).2.2 = tellD img 3 N L ∧ ((extR (imgA img) id M N (pgB img id)).2.2 = true → (extR (imgA img) id M N (pgB img id)).1 = (vaD img 3 L).take N ∧ (extR (imgA img) id M N (pgB img id)).2.1 = L) := by
  rw [idsD_ext] at hL
  have hlen : L.length = M := by rw [hL, idsX_len]
  obtain ⟨h33, h1600, h7, hNM, hNM2⟩ := manyP_ext hM h1
  have henc : encOk 3 N L = mayP 3 L := by
    unfold encOk
    rw [decide_eq_true (by omega), Bool.true_and]
  unfold extR tellD
  rw [← hL, henc]
  by_cases hmay : mayP 3 L = true
  · rw [if_pos hmay, hmay, Bool.true_and]
    have hid := of_decide_eq_true hok
    obtain ⟨i, rfl⟩ : ∃ i : Nat, id = (i : Int) := ⟨id.toNat, by omega⟩
    by_cases hfit : (i + M) * 256 ≤ img.length
    · have hal := alD_ids (img := img) (i := i) M hfit
      rw [← hL] at hal
      have hb : (alD img L).length = M * 256 := by rw [hal, List.length_take, List.length_drop]; omega
      have hall : L.all (pgOk img) = true := List.all_eq_true.2 fun y hy => by
        rw [hL] at hy
        obtain ⟨k, hk⟩ := List.getElem?_of_mem hy
        obtain ⟨h3, rfl⟩ := idsX_get.1 hk
        exact decide_eq_true (by omega)
      have hva : vaD img 3 L = (alD img L).drop 16 := rfl
      have hN : decide (N ≤ (vaD img 3 L).length) = true := decide_eq_true (by rw [hva, List.length_drop, hb]; omega)
      obtain ⟨c1, c2⟩ := ext_core (b := alD img L) (L := L) hM h1 hb hlen
      have hwhole : (if 2 ≤ M then (if (askP (imgA img) ((i : Int) + 1) ((M : Int) - 1)).1 = 0 then extW N M (pgB img i ++ (askP (imgA img) ((i : Int) + 1) ((M : Int) - 1)).2) L else ([], [], false)) else extW N M (pgB img i) L) = extW N M (alD img L) L := by
        have hpb : pgB img i = (img.drop (i * 256)).take 256 := by unfold pgB; rw [if_pos hok, Int.toNat_natCast]
        by_cases h2 : 2 ≤ M
        · have ha := askP_img (img := img) (i := i + 1) (n := M - 1) (by omega)
          rw [show (((i + 1 : Nat)) : Int) = (i : Int) + 1 by omega, show (((M - 1 : Nat)) : Int) = (M : Int) - 1 by omega] at ha
          rw [if_pos h2, ha, if_pos rfl, hal, hpb]
          congr 1
          rw [show M * 256 = 256 + (M - 1) * 256 by omega, List.take_add, List.drop_drop, show (i + 1) * 256 = i * 256 + 256 by omega]
        · rw [if_neg h2, hal, hpb, show M * 256 = 256 by omega]
      rw [hwhole, hall, hN, Bool.true_and, Bool.true_and, hva]
      exact ⟨c1, c2⟩
    · have hno : L.all (pgOk img) = false := by
        rw [Bool.eq_false_iff, Ne, List.all_eq_true]
        intro h
        have := h ((i : Int) + ((M - 1 : Nat) : Int)) (by rw [hL]; exact List.mem_of_getElem? (i := M - 1) (idsX_get.2 ⟨by omega, rfl⟩))
        have := of_decide_eq_true this
        omega
      have h2 : 2 ≤ M := by omega
      have ha : ¬ (askP (imgA img) ((i : Int) + 1) ((M : Int) - 1)).1 = 0 := by
        have e : imgA img ((i : Int) + 1) ((M : Int) - 1) = (11, []) := by
          unfold imgA
          rw [if_pos (by omega)]
        unfold askP
        rw [e]
        simp
      rw [if_pos h2, if_neg ha, hno, Bool.false_and]
      exact ⟨rfl, fun h => by cases h⟩
  · have h0 : mayP 3 L = false := by simpa using hmay
    rw [if_neg hmay, h0]
    simp
end Go.Proofs.YtbgnfocfnjlabaaDoor

/-
  The two decodings as contracts, by what the document decodes.
-/
set_option linter.unusedVariables false
namespace Go.Proofs.YtbgnfocfnjlabaaDoor
open Go.RowKit

theorem OrDecode_c (w : World) (A : Option Addr) (n c : Nat) (img : Bytes) (id size : Int) (hv : Src w (.slice A n c) img) (hn : n ≤ 6000) (hok : pgOk img id = true) :
    Calls Tryd.prog 15 #[.slice A n c, .int .i64 id, .int .i64 size] w (DecD w img id size) := by
  by_cases h : hdE (pgB img id) ≠ 0 ∨ manyP (hdG (pgB img id) : Nat) size = 0
  · exact OrDecode_no w A n c img id size hv hn hok h
  · have he : hdE (pgB img id) = 0 := by
      by_cases h2 : hdE (pgB img id) = 0
      · exact h2
      · exact absurd (Or.inl h2) h
    have hm : manyP (hdG (pgB img id) : Nat) size ≠ 0 := fun h2 => h (Or.inr h2)
    obtain ⟨hgs, _, _, h0, _⟩ := many_gen hm
    obtain ⟨M, hM⟩ : ∃ M : Nat, manyP (hdG (pgB img id) : Nat) size = (M : Int) := ⟨(manyP (hdG (pgB img id) : Nat) size).toNat, by omega⟩
    by_cases hg : ((hdG (pgB img id) : Nat) : Int) = 3
    · exact OrDecode_ext w A n c img id size _ M hg hv hn hok he rfl hM (by omega)
    · have hg2 : ((hdG (pgB img id) : Nat) : Int) = 1 ∨ ((hdG (pgB img id) : Nat) : Int) = 2 := by omega
      exact OrDecode_chain w A n c img id size _ M (tr ((hdG (pgB img id) : Nat) : Int) 248 240 240).toNat (by rcases hg2 with h | h <;> simp [h, tr]) hg2 hv hn hok he rfl hM (by omega)
theorem folS_len (ans : Int → Int → Int × Bytes) : ∀ (K : Nat) (b : Bytes), (folS ans K b).length ≤ K
  | 0, _ => Nat.le_refl _
  | K + 1, b => by
    unfold folS behS
    rw [List.length_append]
    have := folS_len ans K (behP ans b).2.1
    split <;> split <;> simp only [List.length_cons, List.length_nil] <;> omega
theorem vsOf_len (ans : Int → Int → Int × Bytes) (id g : Int) (N : Nat) (b : Bytes) (h : manyP g N ≤ 7) : (vsOf ans id g N b).length ≤ 7 := by
  unfold vsOf
  split
  · have := folS_len ans ((manyP g N).toNat - 1) b
    omega
  · unfold extS
    split <;> simp
/-- Few were asked for. -/
def Few (tb : Nat) (W : World) : Prop := ∃ kk : Int, Blk W tb 3 [.int .i64 kk] ∧ kk ≤ 20
theorem Few.later {tb : Nat} {W W' : World} (h : Few tb W) (ho : Only (W.heap.size ≤ ·) W W') : Few tb W' := by
  obtain ⟨kk, h1, h2⟩ := h
  exact ⟨kk, h1.later ho, h2⟩
/-- What the program's Decode tells, through the law's reader. -/
def DecP (w9 : World) (tb : Nat) (img : Bytes) (id size : Int) (e : Ending) (w' : World) : Prop :=
  Only (fun k => k = tb ∨ w9.heap.size ≤ k) w9 w' ∧
  ((¬ pgOk img id = true → e = .returned (.tuple #[.int .i64 0, .slice none 0 0, .slice none 0 0, .int .i64 11])) ∧
  (pgOk img id = true → Few tb w' ∧ (okD img id size = false → e = .returned (.tuple #[.int .i64 0, .slice none 0 0, .slice none 0 0, .int .i64 80])) ∧
    (okD img id size = true → ∃ x IA k ic, e = .returned (.tuple #[.int .i64 (hdG (pgB img id) : Nat), x, .slice IA k ic, .int .i64 0]) ∧ Src w' x ((vaD img (hdG (pgB img id) : Nat) (idsD img (hdG (pgB img id) : Nat) id (manyP (hdG (pgB img id) : Nat) size).toNat)).take size.toNat) ∧ Ints w' (.slice IA k ic) (idsD img (hdG (pgB img id) : Nat) id (manyP (hdG (pgB img id) : Nat) size).toNat))))
theorem few_of {n₀ tb pb ib n c : Nat} {A : Option Addr} {img : Bytes} {s : List (Int × Int)} {W : World} (h : RdJ n₀ tb pb ib A n c img s W) (hs : s.length ≤ 20) : Few tb W := by
  obtain ⟨k, _, _, h1, _, h2, _⟩ := h
  exact ⟨k, h1, by have := h2 (by omega); omega⟩
set_option maxRecDepth 100000 in
theorem prog_dec {w9 w10 : World} {A : Option Addr} {n c tb : Nat} {img : Bytes} {id size : Int} (hG : Gens w9) (hw10 : w10 = (w9.alloc (.cells #[.slice A n c] 27)).alloc (.cells #[.pointer (some ⟨tb, 0, none⟩)] 35))
    (hT : Blk w9 tb 3 [.int .i64 0]) (hS : Src w9 (.slice A n c) img) (hA : ∀ ad, A = some ad → ad.block ≠ tb ∧ ad.block < w9.heap.size) (hgb : 1 ≠ tb) (hl : img.length ≤ 6000) :
    Calls Tryd.prog 12 #[.func (.func 30) #[] #[.pointer (some ⟨w9.heap.size + 1, 0, none⟩), .pointer (some ⟨w9.heap.size, 0, none⟩)], .int .i64 id, .int .i64 size] w10 (DecP w9 tb img id size) := by
  have hg1 := hG.1
  have htl := hT.lt
  have hsz : w10.heap.size = w9.heap.size + 2 := by rw [hw10]; simp
  have ho10 : Only (w9.heap.size ≤ ·) w9 w10 := by rw [hw10]; exact ((Only.refl _ w9).alloc (fun _ h => h) _).alloc (fun _ h => h) _
  have R := imgR (n₀ := w9.heap.size + 2) (tb := tb) (pb := w9.heap.size + 1) (ib := w9.heap.size) (n := n) (c := c) (A := A) (img := img) (by omega) (by omega) (by omega) (by omega) (by omega) (by omega) hgb (by omega)
  have hJ := rdj_start (n₀ := w9.heap.size + 2) hT hS hA (Nat.le_refl _)
  rw [← hw10] at hJ
  have hO : ∀ W, Only (fun k => k = tb ∨ w10.heap.size ≤ k) w10 W → Only (fun k => k = tb ∨ w9.heap.size ≤ k) w9 W := fun W ho => (ho10.mono fun k hk => Or.inr hk).trans (ho.mono fun k hk => by
    rcases hk with hk | hk
    · exact Or.inl hk
    · exact Or.inr (by omega))
  refine (ODecode_c R [] w10 id size hJ (by omega) (hG.later ho10) (fun h0 => by
    have := of_decide_eq_true (ask_zero.1 h0)
    omega)).mono fun e w' h => ?_
  obtain ⟨d1, d2, d3⟩ := h
  by_cases hok : pgOk img id = true
  · have ha := ask_ok hok
    rw [ha] at d1 d2 d3
    simp only at d1 d2 d3
    by_cases hh : hdE (pgB img id) ≠ 0 ∨ manyP (hdG (pgB img id) : Nat) size = 0
    · obtain ⟨e1, e2, e3⟩ := d2 trivial hh
      have hk := okD_head (img := img) (id := id) (size := size) hh
      exact ⟨hO _ e3, fun h => absurd hok h, fun _ => ⟨few_of e2 (by simp), fun _ => e1, fun h => by rw [hk] at h; cases h⟩⟩
    · have he : hdE (pgB img id) = 0 := by
        by_cases h2 : hdE (pgB img id) = 0
        · exact h2
        · exact absurd (Or.inl h2) hh
      have hm : manyP (hdG (pgB img id) : Nat) size ≠ 0 := fun h2 => hh (Or.inr h2)
      have d := d3 trivial he hm
      obtain ⟨hgs, hs33, _, h0, h7⟩ := many_gen hm
      obtain ⟨N, rfl⟩ : ∃ N : Nat, size = (N : Int) := ⟨size.toNat, by omega⟩
      obtain ⟨M, hM⟩ : ∃ M : Nat, manyP (hdG (pgB img id) : Nat) N = (M : Int) := ⟨(manyP (hdG (pgB img id) : Nat) N).toNat, by omega⟩
      have hM1 : 1 ≤ M := by omega
      have hvs := vsOf_len (imgA img) id (hdG (pgB img id) : Nat) N (pgB img id) h7
      simp only [Int.toNat_natCast] at d ⊢
      have hkd := okD_iff (img := img) (id := id) (size := (N : Int)) (N := N) he rfl hM (by omega) (by simp) rfl
      obtain ⟨L, hL⟩ : ∃ L, L = idsD img (hdG (pgB img id) : Nat) id M := ⟨_, rfl⟩
      rw [← hL] at hkd
      have hsame : (vrOf (imgA img) id (hdG (pgB img id) : Nat) N (pgB img id)).2.2 = okD img id N ∧ ((vrOf (imgA img) id (hdG (pgB img id) : Nat) N (pgB img id)).2.2 = true → (vrOf (imgA img) id (hdG (pgB img id) : Nat) N (pgB img id)).1 = (vaD img (hdG (pgB img id) : Nat) L).take N ∧ (vrOf (imgA img) id (hdG (pgB img id) : Nat) N (pgB img id)).2.1 = L) := by
        rw [hkd]
        unfold vrOf
        by_cases hg : ((hdG (pgB img id) : Nat) : Int) = 3
        · rw [if_neg (by rw [hg]; decide), hM, Int.toNat_natCast]
          rw [hg] at hM hL ⊢
          exact ext_same hM hM1 hok hL
        · have h12 : ((hdG (pgB img id) : Nat) : Int) = 1 ∨ ((hdG (pgB img id) : Nat) : Int) = 2 := by
            rcases hgs with h | h | h
            · exact Or.inl h
            · exact Or.inr h
            · exact absurd h hg
          have h12n : hdG (pgB img id) = 1 ∨ hdG (pgB img id) = 2 := h12.elim (fun h => Or.inl (by exact_mod_cast h)) (fun h => Or.inr (by exact_mod_cast h))
          rw [if_pos (show sgl ((hdG (pgB img id) : Nat) : Int) = true from decide_eq_true h12), hM, Int.toNat_natCast]
          exact chain_same (g := hdG (pgB img id)) h12n (by rcases hgs with h | h | h <;> first | exact absurd h hg | simp [h, tr]) hM hM1 hok hL
      obtain ⟨s1, s2⟩ := hsame
      rw [s1] at d s2
      unfold DecP
      rw [hM]
      simp only [Int.toNat_natCast]
      rw [← hL]
      refine ⟨?_, fun h => absurd hok h, fun _ => ⟨?_, fun hf => ?_, fun ht => ?_⟩⟩
      · split at d
        · obtain ⟨x, i, _, _, _, _, ho⟩ := d
          exact hO _ ho
        · exact hO _ d.2.2
      · split at d
        · obtain ⟨x, i, _, _, _, hj, _⟩ := d
          exact few_of hj (by simp only [List.length_append, List.length_cons, List.length_nil]; omega)
        · exact few_of d.2.1 (by simp only [List.length_append, List.length_cons, List.length_nil]; omega)
      · rw [hf, if_neg (by simp)] at d
        exact d.1
      · rw [ht, if_pos rfl] at d
        obtain ⟨x, i, e1, e2, e3, _, _⟩ := d
        obtain ⟨t1, t2⟩ := s2 ht
        rw [t1] at e2
        rw [t2] at e3
        obtain ⟨IA, ic, rfl, hr⟩ := (fun x => x : ∀ {p : Prop}, p → p) e3
        exact ⟨x, IA, _, ic, e1, e2, e3⟩
  · have ha := ask_no hok
    rw [ha] at d1
    obtain ⟨e1, _, e3⟩ := d1 (by decide)
    exact ⟨hO _ e3, fun _ => e1, fun h => absurd h hok⟩
/-- The reader of no bytes: whatever address they have. -/
def RdE (tb pb ib c : Nat) (A : Option Addr) (s : List (Int × Int)) (W : World) : Prop := ∃ k : Int, Blk W pb 35 [.pointer (some ⟨tb, 0, none⟩)] ∧ Blk W ib 27 [.slice A 0 c] ∧ Blk W tb 3 [.int .i64 k] ∧ I64 k ∧ (s.length ≤ 1000000 → k = s.length)
theorem rde_step {W : World} {tb pb ib c : Nat} {A : Option Addr} {s : List (Int × Int)} {k : Int} (x : Int × Int) (h1 : tb ≠ pb) (h2 : tb ≠ ib) (hP : Blk W pb 35 [.pointer (some ⟨tb, 0, none⟩)]) (hI : Blk W ib 27 [.slice A 0 c]) (hT : Blk W tb 3 [.int .i64 k]) (hs : s.length ≤ 1000000 → k = s.length) :
    RdE tb pb ib c A (s ++ [x]) (W.setCell ⟨tb, 0, none⟩ (.int .i64 (wrap64 (k + 1)))) ∧ Only (· = tb) W (W.setCell ⟨tb, 0, none⟩ (.int .i64 (wrap64 (k + 1)))) := by
  have ho : Only (· = tb) W (W.setCell ⟨tb, 0, none⟩ (.int .i64 (wrap64 (k + 1)))) := (Only.refl (· = tb) W).setCell (p := ⟨tb, 0, none⟩) rfl _
  refine ⟨⟨wrap64 (k + 1), hP.only ho (fun e => h1 e.symm), hI.only ho (fun e => h2 e.symm), hT.set_ 0 _, i64_wrap _, fun hl => ?_⟩, ho⟩
  rw [List.length_append] at hl ⊢
  simp only [List.length_cons, List.length_nil] at hl ⊢
  have h3 := hs (by omega)
  rw [wrap_same (by unfold I64; omega)]
  omega
set_option maxRecDepth 100000 in
set_option maxHeartbeats 400000 in
theorem Oreader1_e (W : World) (tb pb ib c : Nat) (A : Option Addr) (s : List (Int × Int)) (id many : Int) (hm : 1 ≤ many) (h : RdE tb pb ib c A s W) (h1 : tb ≠ pb) (h2 : tb ≠ ib) :
    Calls Tryd.prog 30 (#[.int .i64 id, .int .i64 many] ++ #[.pointer (some ⟨pb, 0, none⟩), .pointer (some ⟨ib, 0, none⟩)]) W fun e W' => e = .returned (.tuple #[.slice none 0 0, .int .i64 11]) ∧ RdE tb pb ib c A (s ++ [(id, many)]) W' ∧ Only (· = tb) W W' := by
  obtain ⟨k, hP, hI, hT, hk, hs⟩ := h
  have q0 := hP.cell 0
  have q1 := hI.cell 0
  have q2 := hT.cell 0
  have f2 := hT.frozen 0
  have HSTEP := Lib.hid (rde_step (id, many) h1 h2 hP hI hT hs)
  have g0 : ¬ many < 0 := by omega
  have g1 : (0 : Int) < many := by omega
  clear hP hI hT hk hs
  by_cases a1 : id < 0
  · go_enter Tryd.func30, Tryd.ntmps30
    go_wp2
    go_ret2
    exact ⟨rfl, HSTEP.out⟩
  · go_enter Tryd.func30, Tryd.ntmps30
    go_wp2
    go_ret2
    exact ⟨rfl, HSTEP.out⟩
theorem imgA_nil (id many : Int) (h : 1 ≤ many) : imgA [] id many = (11, []) := by
  unfold imgA
  rw [if_pos (by simp; omega)]
theorem imgE {n₀ tb pb ib c : Nat} {A : Option Addr} (h0 : tb < n₀) (h1 : pb < n₀) (h2 : ib < n₀) (h3 : tb ≠ pb) (h4 : tb ≠ ib) (h5 : 1 < n₀) (h6 : 1 ≠ tb) :
    Rdg n₀ (· = tb) (RdE tb pb ib c A) 30 #[.pointer (some ⟨pb, 0, none⟩), .pointer (some ⟨ib, 0, none⟩)] (imgA []) where
  enters := enters_of Tryd.func30 (by kernel_rfl) rfl
  low := fun k h => by rw [h]; exact h0
  zero := h6
  gb := h5
  keep := fun s W W' ⟨k, hP, hI, hT, hk, hs⟩ hn ho => ⟨k, hP.only ho (by omega), hI.only ho (by omega), hT.only ho (by omega), hk, hs⟩
  len := fun id many => by
    unfold imgA
    split <;> simp
  call := fun s W id many hm h hn => (Oreader1_e W tb pb ib c A s id many hm h h3 h4).mono fun e W' ⟨e1, e3, e4⟩ => ⟨.slice none 0 0, (by rw [imgA_nil id many hm]; exact e1), by rw [imgA_nil id many hm]; exact Src.nil_ _, e3, e4.mono fun k h => Or.inl h⟩
theorem prog_dec0 {w9 w10 : World} {A : Option Addr} {c tb : Nat} {id size : Int} (hG : Gens w9) (hw10 : w10 = (w9.alloc (.cells #[.slice A 0 c] 27)).alloc (.cells #[.pointer (some ⟨tb, 0, none⟩)] 35))
    (hT : Blk w9 tb 3 [.int .i64 0]) (hgb : 1 ≠ tb) :
    Calls Tryd.prog 12 #[.func (.func 30) #[] #[.pointer (some ⟨w9.heap.size + 1, 0, none⟩), .pointer (some ⟨w9.heap.size, 0, none⟩)], .int .i64 id, .int .i64 size] w10 (DecP w9 tb [] id size) := by
  have hg1 := hG.1
  have htl := hT.lt
  have hsz : w10.heap.size = w9.heap.size + 2 := by rw [hw10]; simp
  have ho10 : Only (w9.heap.size ≤ ·) w9 w10 := by rw [hw10]; exact ((Only.refl _ w9).alloc (fun _ h => h) _).alloc (fun _ h => h) _
  have R := imgE (n₀ := w9.heap.size + 2) (tb := tb) (pb := w9.heap.size + 1) (ib := w9.heap.size) (c := c) (A := A) (by omega) (by omega) (by omega) (by omega) (by omega) (by omega) hgb
  have hJ : RdE tb (w9.heap.size + 1) w9.heap.size c A [] w10 := by
    refine ⟨0, ?_, ?_, hT.later ho10, by unfold I64; omega, fun _ => rfl⟩
    · rw [hw10]
      have := Blk.new (w9.alloc (.cells #[.slice A 0 c] 27)) 35 [.pointer (some ⟨tb, 0, none⟩)]
      simpa using this
    · rw [hw10]
      exact (Blk.new w9 27 _).alloc _
  have hno : ¬ pgOk [] id = true := by
    intro h
    have := of_decide_eq_true h
    simp at this
    omega
  have ha := ask_no hno
  refine (ODecode_c R [] w10 id size hJ (by omega) (hG.later ho10) (fun h0 => absurd (ask_zero.1 h0) hno)).mono fun e w' h => ?_
  obtain ⟨d1, _, _⟩ := h
  rw [ha] at d1
  obtain ⟨e1, _, e3⟩ := d1 (by decide)
  refine ⟨(ho10.mono fun k hk => Or.inr hk).trans (e3.mono fun k hk => ?_), fun _ => e1, fun h => absurd h hno⟩
  rcases hk with hk | hk
  · exact Or.inl hk
  · exact Or.inr (by omega)
/-- Of any bytes. -/
theorem prog_any {w w9 w10 : World} {A : Option Addr} {n c : Nat} {img : Bytes} {id size : Int} (hG : Gens w) (hw9 : w9 = w.alloc (.cells #[.int .i64 0] 3)) (hw10 : w10 = (w9.alloc (.cells #[.slice A n c] 27)).alloc (.cells #[.pointer (some ⟨w.heap.size, 0, none⟩)] 35))
    (hS : Src w (.slice A n c) img) (hl : img.length ≤ 6000) :
    Calls Tryd.prog 12 #[.func (.func 30) #[] #[.pointer (some ⟨w9.heap.size + 1, 0, none⟩), .pointer (some ⟨w9.heap.size, 0, none⟩)], .int .i64 id, .int .i64 size] w10 (DecP w9 w.heap.size img id size) := by
  have hT : Blk w9 w.heap.size 3 [.int .i64 0] := by rw [hw9]; exact Blk.new w 3 _
  have ho9 : Only (w.heap.size ≤ ·) w w9 := by rw [hw9]; exact (Only.refl _ w).alloc (fun _ h => h) _
  have hgb : 1 ≠ w.heap.size := by have := hG.1; omega
  have hs9 : w9.heap.size = w.heap.size + 1 := by rw [hw9]; simp
  have hn : n = img.length := by
    obtain ⟨A', c', e, _⟩ := hS
    simp only [Value.slice.injEq] at e
    exact e.2.1
  by_cases h0 : 0 < n
  · refine prog_dec (hG.later ho9) hw10 hT (hS.later ho9) (fun ad e => ?_) hgb hl
    obtain ⟨b, off, e2, _, _, _, hb⟩ := src_form hS h0
    rw [e] at e2
    cases e2
    simp only
    omega
  · have hz : img = [] := List.eq_nil_of_length_eq_zero (by omega)
    have hn0 : n = 0 := by omega
    subst hz hn0
    exact prog_dec0 (hG.later ho9) hw10 hT hgb
end Go.Proofs.YtbgnfocfnjlabaaDoor

/-
  OverDecodes: the walk.
-/
set_option linter.unusedVariables false
namespace Go.Proofs.YtbgnfocfnjlabaaDoor
open Go.RowKit

set_option maxRecDepth 100000 in
set_option maxHeartbeats 3200000 in
theorem odec_far (w : World) (hG : Gens w) (A : Option Addr) (n c : Nat) (img : Bytes) (id size : Int) (hv : Src w (.slice A n c) img) (hn : 6000 < n) : Calls Tryd.prog 4 #[.slice A n c, .int .i64 id, .int .i64 size] w (Told w (.bool true)) := by
  have HAL : Hid (∀ W, Only (w.heap.size ≤ ·) w W → Calls Tryd.prog 8 #[] W (Told W (.bool true))) := Lib.hid fun W hW => oalive_c W (hG.later hW)
  have hni : (6000 : Int) < (n : Int) := by omega
  clear hG hv hn
  go_enter Tryd.func4, Tryd.ntmps4
  go_wp2_with (go_at_call 8; go_loud ((with_reducible refine (HAL.out _ (Only.refl _ w)).mono ?_); rintro ee w12 ⟨rfl, ho⟩; have HO2 := Lib.hid ho; clear ho))
  go_ret
  exact ⟨rfl, HO2.out⟩
theorem ids_7 (img : Bytes) (g id size : Int) : (idsD img g id (manyP g size).toNat).length ≤ 7 := by
  have h := idsD_len img g (manyP g size).toNat id
  by_cases h0 : manyP g size = 0
  · rw [h0] at h; simp only [Int.toNat_zero] at h; rw [h0]; simp only [Int.toNat_zero]; omega
  · have := (many_gen h0).2.2.2.2
    omega
theorem src_lenn {w : World} {A : Option Addr} {n c : Nat} {xs : Bytes} (h : Src w (.slice A n c) xs) : n = xs.length := by
  obtain ⟨A', c', e, _⟩ := h
  simp only [Value.slice.injEq] at e
  exact e.2.1
set_option maxRecDepth 100000 in
set_option maxHeartbeats 3200000 in
theorem odec_page (w : World) (hG : Gens w) (A : Option Addr) (n c : Nat) (img : Bytes) (id size : Int) (hv : Src w (.slice A n c) img) (hn : n ≤ 6000) (hp : ¬ pgOk img id = true) : Calls Tryd.prog 4 #[.slice A n c, .int .i64 id, .int .i64 size] w (Told w (.bool true)) := by
  have hnl := src_lenn hv
  obtain ⟨w9, hw9⟩ : ∃ W, W = w.alloc (.cells #[.int .i64 0] 3) := ⟨_, rfl⟩
  have HO9 : Hid (Only (w.heap.size ≤ ·) w w9) := Lib.hid (by rw [hw9]; exact (Only.refl _ w).alloc (fun _ h => h) _)
  have HT9 : Hid (Blk w9 w.heap.size 3 [.int .i64 0]) := Lib.hid (by rw [hw9]; exact Blk.new w 3 _)
  have HAL : Hid (∀ W, Only (w.heap.size ≤ ·) w W → Calls Tryd.prog 8 #[] W (Told W (.bool true))) := Lib.hid fun W hW => oalive_c W (hG.later hW)
  have HPD : Hid (∀ w10, w10 = (w9.alloc (.cells #[.slice A n c] 27)).alloc (.cells #[.pointer (some ⟨w.heap.size, 0, none⟩)] 35) → Calls Tryd.prog 12 #[.func (.func 30) #[] #[.pointer (some ⟨w9.heap.size + 1, 0, none⟩), .pointer (some ⟨w9.heap.size, 0, none⟩)], .int .i64 id, .int .i64 size] w10 (DecP w9 w.heap.size img id size)) := Lib.hid fun w10 hw10 => prog_any hG hw9 hw10 hv (by omega)
  have HPG : Hid (∀ W, Calls Tryd.prog 14 #[.slice A n c, .int .i64 id] W fun e w' => ∃ v, e = .returned (.tuple #[v, .bool (pgOk img id)]) ∧ Src w v (pgB img id) ∧ W = w') := Lib.hid fun W => rPage_x w W A n c img id hv (by omega)
  have HPG2 : Hid (∀ W, Calls Tryd.prog 14 #[.slice A n c, .int .i64 id] W fun e w' => ∃ v, e = .returned (.tuple #[v, .bool false]) ∧ Src w v (pgB img id) ∧ W = w') := Lib.hid fun W => by have := HPG.out W; rwa [show pgOk img id = false by simpa using hp] at this
  have HNP := Lib.hid hp
  have hni : ¬ (6000 : Int) < (n : Int) := by omega
  clear hG hv hn hp hnl HPG
  go_enter Tryd.func4, Tryd.ntmps4
  go_upto_region 4 with (fail)
  rw [← hw9]
  clear hw9
  go_wp2_with (first
    | (go_at_call 13; go_loud ((with_reducible refine (Oreader_c w9 A n c w.heap.size).mono ?_); rintro ee w10 ⟨rfl, hw10⟩; have HW10 := Lib.hid hw10; clear hw10))
    | (go_at_call 12; go_loud ((with_reducible refine (HPD.out w10 HW10.out).mono ?_); rintro ee w11 ⟨ho, hd, _⟩; (obtain rfl := hd HNP.out); have HO2 : Hid (Only (w.heap.size ≤ ·) w w11) := Lib.hid (HO9.out.trans (ho.mono fun k hk => hk.elim (fun h => Nat.le_of_eq h.symm) (fun h => Nat.le_trans HO9.out.size h))); clear ho hd))
    | (go_at_call 14; go_loud ((with_reducible refine (HPG2.out _).mono ?_); rintro ee wp ⟨pv, rfl, hpv, rfl⟩; clear hpv))
    | (go_at_call 8; go_loud ((with_reducible refine (HAL.out _ HO2.out).mono ?_); rintro ee w12 ⟨rfl, ho⟩; (replace HO2 := Lib.hid (on_new HO2.out ho)); clear ho)))
  go_ret
  exact ⟨rfl, HO2.out⟩
set_option maxRecDepth 100000 in
set_option maxHeartbeats 3200000 in
theorem odec_no (w : World) (hG : Gens w) (A : Option Addr) (n c : Nat) (img : Bytes) (id size : Int) (hv : Src w (.slice A n c) img) (hn : n ≤ 6000) (hp : pgOk img id = true) (hk : okD img id size = false) : Calls Tryd.prog 4 #[.slice A n c, .int .i64 id, .int .i64 size] w (Told w (.bool true)) := by
  have hnl := src_lenn hv
  obtain ⟨w9, hw9⟩ : ∃ W, W = w.alloc (.cells #[.int .i64 0] 3) := ⟨_, rfl⟩
  have HO9 : Hid (Only (w.heap.size ≤ ·) w w9) := Lib.hid (by rw [hw9]; exact (Only.refl _ w).alloc (fun _ h => h) _)
  have HT9 : Hid (Blk w9 w.heap.size 3 [.int .i64 0]) := Lib.hid (by rw [hw9]; exact Blk.new w 3 _)
  have HAL : Hid (∀ W, Only (w.heap.size ≤ ·) w W → Calls Tryd.prog 8 #[] W (Told W (.bool true))) := Lib.hid fun W hW => oalive_c W (hG.later hW)
  have HPD : Hid (∀ w10, w10 = (w9.alloc (.cells #[.slice A n c] 27)).alloc (.cells #[.pointer (some ⟨w.heap.size, 0, none⟩)] 35) → Calls Tryd.prog 12 #[.func (.func 30) #[] #[.pointer (some ⟨w9.heap.size + 1, 0, none⟩), .pointer (some ⟨w9.heap.size, 0, none⟩)], .int .i64 id, .int .i64 size] w10 (DecP w9 w.heap.size img id size)) := Lib.hid fun w10 hw10 => prog_any hG hw9 hw10 hv (by omega)
  have HPG : Hid (∀ W, Calls Tryd.prog 14 #[.slice A n c, .int .i64 id] W fun e w' => ∃ v, e = .returned (.tuple #[v, .bool (pgOk img id)]) ∧ Src w v (pgB img id) ∧ W = w') := Lib.hid fun W => rPage_x w W A n c img id hv (by omega)
  have HPG2 : Hid (∀ W, Calls Tryd.prog 14 #[.slice A n c, .int .i64 id] W fun e w' => ∃ v, e = .returned (.tuple #[v, .bool true]) ∧ Src w v (pgB img id) ∧ W = w') := Lib.hid fun W => by have := HPG.out W; rwa [hp] at this
  have HDC : Hid (∀ W, Only (w.heap.size ≤ ·) w W → Calls Tryd.prog 15 #[.slice A n c, .int .i64 id, .int .i64 size] W fun e w' => e = .returned (.tuple #[.int .i64 0, .slice none 0 0, .slice none 0 0, .bool false]) ∧ Only (W.heap.size ≤ ·) W w') := Lib.hid fun W hW => (OrDecode_c W A n c img id size (hv.later hW) hn hp).mono fun e w' h => by
    rcases h with ⟨h1, _⟩ | ⟨_, h2⟩
    · rw [hk] at h1; cases h1
    · exact h2
  have HPK := Lib.hid (And.intro hp hk)
  have hni : ¬ (6000 : Int) < (n : Int) := by omega
  clear hG hv hn hp hk hnl HPG
  go_enter Tryd.func4, Tryd.ntmps4
  go_upto_region 4 with (fail)
  rw [← hw9]
  clear hw9
  go_wp2_with (first
    | (go_at_call 13; go_loud ((with_reducible refine (Oreader_c w9 A n c w.heap.size).mono ?_); rintro ee w10 ⟨rfl, hw10⟩; have HW10 := Lib.hid hw10; clear hw10))
    | (go_at_call 12; go_loud ((with_reducible refine (HPD.out w10 HW10.out).mono ?_); rintro ee w11 ⟨ho, _, hd⟩; (obtain ⟨hf, hd2, _⟩ := hd HPK.out.1); (obtain rfl := hd2 HPK.out.2); have HF := Lib.hid hf; have HO2 : Hid (Only (w.heap.size ≤ ·) w w11) := Lib.hid (HO9.out.trans (ho.mono fun k hk => hk.elim (fun h => Nat.le_of_eq h.symm) (fun h => Nat.le_trans HO9.out.size h))); clear ho hd hd2 hf))
    | (go_at_call 14; go_loud ((with_reducible refine (HPG2.out _).mono ?_); rintro ee wp ⟨pv, rfl, hpv, rfl⟩; clear hpv))
    | (go_at_call 15; go_loud ((with_reducible refine (HDC.out w11 HO2.out).mono ?_); rintro ee wd ⟨rfl, ho⟩; (replace HO2 := Lib.hid (on_new HO2.out ho)); (replace HF := Lib.hid (HF.out.later ho)); clear ho))
    | (go_at_call 8; go_loud ((with_reducible refine (HAL.out _ HO2.out).mono ?_); rintro ee w12 ⟨rfl, ho⟩; (replace HO2 := Lib.hid (on_new HO2.out ho)); (replace HF := Lib.hid (HF.out.later ho)); (obtain ⟨kk, hkb, hkk⟩ := HF.out); have kt := hkb.cell 0; simp only [List.getElem?_cons_zero] at kt; clear hkb; clear ho)))
  go_ret
  exact ⟨rfl, HO2.out⟩
set_option maxRecDepth 100000 in
set_option maxHeartbeats 3200000 in
theorem odec_yes (w : World) (hG : Gens w) (A : Option Addr) (n c : Nat) (img : Bytes) (id size : Int) (hv : Src w (.slice A n c) img) (hn : n ≤ 6000) (hp : pgOk img id = true) (hk : okD img id size = true) : Calls Tryd.prog 4 #[.slice A n c, .int .i64 id, .int .i64 size] w (Told w (.bool true)) := by
  have hnl := src_lenn hv
  obtain ⟨w9, hw9⟩ : ∃ W, W = w.alloc (.cells #[.int .i64 0] 3) := ⟨_, rfl⟩
  have HO9 : Hid (Only (w.heap.size ≤ ·) w w9) := Lib.hid (by rw [hw9]; exact (Only.refl _ w).alloc (fun _ h => h) _)
  have HT9 : Hid (Blk w9 w.heap.size 3 [.int .i64 0]) := Lib.hid (by rw [hw9]; exact Blk.new w 3 _)
  have HAL : Hid (∀ W, Only (w.heap.size ≤ ·) w W → Calls Tryd.prog 8 #[] W (Told W (.bool true))) := Lib.hid fun W hW => oalive_c W (hG.later hW)
  have HPD : Hid (∀ w10, w10 = (w9.alloc (.cells #[.slice A n c] 27)).alloc (.cells #[.pointer (some ⟨w.heap.size, 0, none⟩)] 35) → Calls Tryd.prog 12 #[.func (.func 30) #[] #[.pointer (some ⟨w9.heap.size + 1, 0, none⟩), .pointer (some ⟨w9.heap.size, 0, none⟩)], .int .i64 id, .int .i64 size] w10 (DecP w9 w.heap.size img id size)) := Lib.hid fun w10 hw10 => prog_any hG hw9 hw10 hv (by omega)
  have HPG : Hid (∀ W, Calls Tryd.prog 14 #[.slice A n c, .int .i64 id] W fun e w' => ∃ v, e = .returned (.tuple #[v, .bool (pgOk img id)]) ∧ Src w v (pgB img id) ∧ W = w') := Lib.hid fun W => rPage_x w W A n c img id hv (by omega)
  have HPG2 : Hid (∀ W, Calls Tryd.prog 14 #[.slice A n c, .int .i64 id] W fun e w' => ∃ v, e = .returned (.tuple #[v, .bool true]) ∧ Src w v (pgB img id) ∧ W = w') := Lib.hid fun W => by have := HPG.out W; rwa [hp] at this
  obtain ⟨gg, hgg⟩ : ∃ x : Int, x = (hdG (pgB img id) : Nat) := ⟨_, rfl⟩
  obtain ⟨L, hL⟩ : ∃ L, L = idsD img gg id (manyP gg size).toNat := ⟨_, rfl⟩
  obtain ⟨vv, hvv⟩ : ∃ x, x = (vaD img gg L).take size.toNat := ⟨_, rfl⟩
  have HDC : Hid (∀ W, Only (w.heap.size ≤ ·) w W → Calls Tryd.prog 15 #[.slice A n c, .int .i64 id, .int .i64 size] W fun e w' => ∃ x IA k ic, e = .returned (.tuple #[.int .i64 gg, x, .slice IA k ic, .bool true]) ∧ Src w' x vv ∧ Ints w' (.slice IA k ic) L ∧ Only (W.heap.size ≤ ·) W w') := Lib.hid fun W hW => (OrDecode_c W A n c img id size (hv.later hW) hn hp).mono fun e w' h => by
    rcases h with ⟨_, h2⟩ | ⟨h1, _⟩
    · rw [hvv, hL, hgg]; exact h2
    · rw [hk] at h1; cases h1
  have HL7 : Hid (L.length ≤ 7) := Lib.hid (by rw [hL]; exact ids_7 img gg id size)
  have HPK := Lib.hid (And.intro hp hk)
  have HEQ := Lib.hid (And.intro hgg (And.intro hL hvv))
  have hni : ¬ (6000 : Int) < (n : Int) := by omega
  clear hG hv hn hp hk hnl HPG hgg hL hvv
  go_enter Tryd.func4, Tryd.ntmps4
  go_upto_region 4 with (fail)
  rw [← hw9]
  clear hw9
  go_upto_region 11 with (first
    | (go_at_call 13; go_loud ((with_reducible refine (Oreader_c w9 A n c w.heap.size).mono ?_); rintro ee w10 ⟨rfl, hw10⟩; have HW10 := Lib.hid hw10; clear hw10))
    | (go_at_call 12; go_loud ((with_reducible refine (HPD.out w10 HW10.out).mono ?_); rintro ee w11 ⟨ho, _, hd⟩; (obtain ⟨hf, _, hd2⟩ := hd HPK.out.1); (obtain ⟨x1, I1, k1, c1, he1, hx1, hi1⟩ := hd2 HPK.out.2); rw [← HEQ.out.1] at he1 hx1 hi1; rw [← HEQ.out.2.1] at hx1 hi1; rw [← HEQ.out.2.2] at hx1; subst he1; have HX1 := Lib.hid hx1; have HI1 := Lib.hid hi1; have HF := Lib.hid hf; have HO2 : Hid (Only (w.heap.size ≤ ·) w w11) := Lib.hid (HO9.out.trans (ho.mono fun k hk => hk.elim (fun h => Nat.le_of_eq h.symm) (fun h => Nat.le_trans HO9.out.size h))); clear ho hd hd2 hf hx1 hi1))
    | (go_at_call 14; go_loud ((with_reducible refine (HPG2.out _).mono ?_); rintro ee wp ⟨pv, rfl, hpv, rfl⟩; clear hpv))
    | (go_at_call 15; go_loud ((with_reducible refine (HDC.out w11 HO2.out).mono ?_); rintro ee wd ⟨x2, I2, k2, c2, rfl, hx2, hi2, ho⟩; have HX2 := Lib.hid hx2; have HI2 := Lib.hid hi2; (replace HO2 := Lib.hid (on_new HO2.out ho)); (replace HF := Lib.hid (HF.out.later ho)); (replace HX1 := Lib.hid (HX1.out.later ho)); (replace HI1 := Lib.hid (HI1.out.later ho)); clear ho hx2 hi2)))
  have hk1 := HI1.out.len
  have hk2 := HI2.out.len
  obtain rfl : k1 = k2 := by rw [hk1, hk2]
  clear hk2
  have HK1 := Lib.hid hk1
  have hk7 : k1 ≤ 7 := by rw [hk1]; exact HL7.out
  clear hk1
  go_wp2_with (fail)
  go_loopw [101] (fun i wr => ∃ (k : Nat), i = .int .i64 k ∧ k ≤ k1 ∧ Hid (Only (wd.heap.size ≤ ·) wd wr)) (fun i _ => k1 - (intOf i).toNat)
  case atStart => exact ⟨0, rfl, Nat.zero_le _, Lib.hid (Only.refl _ wd)⟩
  case round =>
    obtain ⟨k, rfl, hkq, HOk⟩ := hrel
    by_cases hlt : k < k1
    · obtain ⟨b1, f1, x, rfl, hb1, hx1, hc1⟩ := (HI1.out.later HOk.out).at_ hlt
      obtain ⟨b2, f2, x', rfl, hb2, hx2, hc2⟩ := (HI2.out.later HOk.out).at_ hlt
      obtain rfl : x = x' := Option.some.inj (hx1.symm.trans hx2)
      have hkn : (k : Int) < (k1 : Int) := by omega
      have hkn0 : (0 : Int) ≤ (k : Int) := by omega
      clear hx1 hx2
      go_upto_region 16 with (fail)
      refine wp_region_list (B := [false, false, false, false, false, false, false, false, false]) (S := (fun W => W.cell? ⟨b1, f1 + k, none⟩ = some (.int .i64 x) ∧ W.cell? ⟨b2, f2 + k, none⟩ = some (.int .i64 x))) (by kernel_rfl) (by kernel_rfl) (by kernel_rfl) ⟨hc1, hc2⟩ (fun hsel hHeld => ?_)
      refine oneA 0 104 hsel (h := ?_)
      simp only [Act.put, List.setIfInBounds_toArray, List.set_cons_zero, List.set_cons_succ]
      refine oneA 1 105 hsel (h := ?_)
      simp only [Act.put, List.setIfInBounds_toArray, List.set_cons_zero, List.set_cons_succ]
      refine oneA 2 106 hsel (h := ?_)
      simp only [Act.put, List.setIfInBounds_toArray, List.set_cons_zero, List.set_cons_succ]
      refine oneA 3 107 hsel (h := ?_)
      simp only [Act.put, List.setIfInBounds_toArray, List.set_cons_zero, List.set_cons_succ]
      refine oneA 4 108 hsel (h := ?_)
      simp only [Act.put, List.setIfInBounds_toArray, List.set_cons_zero, List.set_cons_succ]
      refine oneA 5 109 hsel (h := ?_)
      simp only [Act.put, List.setIfInBounds_toArray, List.set_cons_zero, List.set_cons_succ]
      refine oneA 6 110 hsel (h := ?_)
      simp only [Act.put, List.setIfInBounds_toArray, List.set_cons_zero, List.set_cons_succ]
      refine oneA 7 111 hsel (h := ?_)
      simp only [Act.put, List.setIfInBounds_toArray, List.set_cons_zero, List.set_cons_succ]
      refine oneA 8 112 hsel (h := ?_)
      simp only [Act.put, List.setIfInBounds_toArray, List.set_cons_zero, List.set_cons_succ]
      refine wpAnyL_done (by kernel_rfl) (by kernel_rfl) ?_ _
      clear hsel hHeld
      go_wp2_with (fail)
      go_roundw
      case rel => exact ⟨k + 1, by go_num, hlt, Lib.hid HOk.out.drew⟩
      case measure => (simp [intOf] <;> omega)
    · replace HO2 := Lib.hid (on_new HO2.out HOk.out)
      replace HF := Lib.hid (HF.out.later HOk.out)
      replace HX1 := Lib.hid (HX1.out.later HOk.out)
      replace HX2 := Lib.hid (HX2.out.later HOk.out)
      obtain rfl : k1 = k := by omega
      clear hlt hkq
      go_wp2_with (first
        | (go_at_call 8; go_loud ((with_reducible refine (HAL.out _ HO2.out).mono ?_); rintro ee w12 ⟨rfl, ho⟩; (replace HO2 := Lib.hid (on_new HO2.out ho)); (replace HF := Lib.hid (HF.out.later ho)); (obtain ⟨kk, hkb, hkk⟩ := HF.out); have kt := hkb.cell 0; simp only [List.getElem?_cons_zero] at kt; (replace HX1 := Lib.hid (HX1.out.later ho)); (replace HX2 := Lib.hid (HX2.out.later ho)); clear hkb; clear ho))
        | (go_at_call 16; go_loud ((with_reducible refine (Equal_b _ _ _ vv vv true HX1.out HX2.out (decide_eq_true rfl)).mono ?_); rintro ee wc' ⟨rfl, rfl⟩)))
      go_ret
      exact ⟨rfl, HO2.out⟩
theorem odec_c (w : World) (hG : Gens w) (A : Option Addr) (n c : Nat) (img : Bytes) (id size : Int) (hv : Src w (.slice A n c) img) : Calls Tryd.prog 4 #[.slice A n c, .int .i64 id, .int .i64 size] w (Told w (.bool true)) := by
  by_cases hn : 6000 < n
  · exact odec_far w hG A n c img id size hv hn
  by_cases hp : pgOk img id = true
  · cases hk : okD img id size with
    | true => exact odec_yes w hG A n c img id size hv (by omega) hp hk
    | false => exact odec_no w hG A n c img id size hv (by omega) hp hk
  · exact odec_page w hG A n c img id size hv (by omega) hp
end Go.Proofs.YtbgnfocfnjlabaaDoor

