/-
  A commit, a format, and the newest meta behind it: plain data. No memory here.
-/
import Derived.Test.YtopaponemjaenaaGreatDoorPgp
set_option linter.unusedVariables false
namespace Go.Proofs.YtopaponemjaenaaGreatDoor

/-- The other meta's page is A; the page of slot s is zeros, of which some sectors are E's. -/
def Qm (s : Nat) (A E : Bytes) : SQ := fun k v => (k / 4 = 1 - s → v = sect A (k % 4)) ∧ (k / 4 = s → v = z64 ∨ v = sect E (k % 4))
/-- The other meta's page is A, that of slot s is b. -/
def Qe (s : Nat) (A b : Bytes) : SQ := fun k v => (k / 4 = 1 - s → v = sect A (k % 4)) ∧ (k / 4 = s → v = sect b (k % 4))
theorem Qe.mix {s : Nat} {A b : Bytes} (k : Nat) (v : Bytes) (h : Qe s A b k v) : Qm s A b k v := ⟨h.1, fun e => .inr (h.2 e)⟩
theorem Qe.turn {s : Nat} (hs : s < 2) {A b : Bytes} (k : Nat) (v : Bytes) (h : Qe s A b k v) : Qm (1 - s) b A k v := ⟨fun e => h.2 (by omega), fun e => .inr (h.1 e)⟩
theorem sect_z256 {j : Nat} (hj : j < 4) : sect z256 j = z64 := by
  unfold sect z256 z64
  rw [List.drop_replicate, List.take_replicate]
  congr 1
  omega
theorem fitN_of {N n : Nat} {y : Wt} (h : fitW N y = true) (hn : N * 4 ≤ n) : FitN n y ∧ 2 ≤ y.1.toNat := by
  unfold fitW at h
  simp only [Bool.and_eq_true, decide_eq_true_eq] at h
  obtain ⟨h1, h2, h3, h4⟩ := h
  refine ⟨⟨?_, ?_, ?_, ?_⟩, ?_⟩ <;> omega
theorem fitN_page {s n : Nat} {b : Bytes} (hs : s < 2) (hb : b.length = 256) (hn : 8 ≤ n) : FitN n ((s : Int), b) := by
  refine ⟨?_, ?_, ?_, ?_⟩ <;> simp only [hb, Int.toNat_natCast] <;> omega
theorem page_mem {s : Nat} {b : Bytes} (hb : b.length = 256) {e : Dk.Wr} (h : e ∈ rowOf ((s : Int), b)) : ∃ j, j < 4 ∧ e.1 = s * 4 + j ∧ e.2 = sect b j := by
  obtain ⟨j, h1, h2, h3⟩ := rowOf_mem h
  simp only [hb, Int.toNat_natCast] at h1 h2
  exact ⟨j, by omega, h2, h3⟩
theorem mem_page {s : Nat} {b : Bytes} (hb : b.length = 256) {j : Nat} (hj : j < 4) : (s * 4 + j, sect b j) ∈ rowOf ((s : Int), b) := by
  have h := mem_rowOf (x := ((s : Int), b)) (j := j) (by simp only [hb]; omega)
  simpa only [Int.toNat_natCast] using h
theorem rowsOf_cons (x : Wt) (l : List Wt) : rowsOf (x :: l) = rowOf x ++ rowsOf l := by unfold rowsOf; rw [List.flatMap_cons]
theorem ws_far {N : Nat} {ws : List Wt} (hfit : ∀ y ∈ ws, fitW N y = true) {e : Dk.Wr} (h : e ∈ rowsOf ws) : 8 ≤ e.1 := by
  unfold rowsOf at h
  obtain ⟨y, hy, he⟩ := List.mem_flatMap.1 h
  obtain ⟨j, _, h2, _⟩ := rowOf_mem he
  have := (fitN_of (n := N * 4) (hfit y hy) (Nat.le_refl _)).2
  omega
/-- Ended well. -/
structure Done (d : Dk.Dsk) (k N : Nat) (r : Dk.Dsk × Int) : Prop where
  err : r.2 = 0
  down : r.1.down = false
  row : r.1.row = []
  n : r.1.n = max d.n (N * 4)
  limit : r.1.limit = d.limit
  armed : r.1.armed = d.armed
  ops : r.1.ops = d.ops + k
  wf : r.1.WF
/-- Gone down on the way. -/
structure Fell (d : Dk.Dsk) (N : Nat) (r : Dk.Dsk × Int) : Prop where
  armed : d.armed = true
  err : r.2 = 10
  down : r.1.down = true
  n : r.1.n = max d.n (N * 4)
  limit : r.1.limit = d.limit
  wf : r.1.WF
theorem grow_go {d : Dk.Dsk} (hw : d.WF) (hd : d.down = false) (hr : d.row = []) {N : Nat} (hl : N * 4 ≤ d.limit) : d.grow ((N : Int) * 4) = ({ d with n := max d.n (N * 4), dur := d.dur ++ List.replicate ((N * 4 - d.n) * 64) 0 }, 0) ∧ Dk.Dsk.WF { d with n := max d.n (N * 4), dur := d.dur ++ List.replicate ((N * 4 - d.n) * 64) 0 } := by
  have e : ((N : Int) * 4).toNat = N * 4 := by omega
  refine ⟨?_, ?_, hw.lim, ?_, ?_, hw.left⟩
  · unfold Dk.Dsk.grow
    rw [if_neg (by rw [hd]; decide), if_neg (by omega), e]
  · have := hw.nl
    show max d.n (N * 4) ≤ d.limit
    omega
  · show (d.dur ++ List.replicate ((N * 4 - d.n) * 64) 0).length = max d.n (N * 4) * 64
    rw [List.length_append, List.length_replicate, hw.len]
    omega
  · intro e he
    have he' : e ∈ d.row := he
    rw [hr] at he'
    cases he'
theorem sect_app {xs ys : Bytes} {k : Nat} (h : k * 64 + 64 ≤ xs.length) : sect (xs ++ ys) k = sect xs k := by
  unfold sect
  rw [List.drop_append_of_le_length (by omega), List.take_append_of_le_length (by rw [List.length_drop]; omega)]
theorem sect_zeros {xs : Bytes} {m k : Nat} (h1 : xs.length ≤ k * 64) (h2 : k * 64 + 64 ≤ xs.length + m) : sect (xs ++ List.replicate m 0) k = z64 := by
  unfold sect z64
  rw [List.drop_append, List.drop_eq_nil_of_le (by omega), List.nil_append, List.drop_replicate, List.take_replicate]
  congr 1
  omega
theorem grow_mix {d : Dk.Dsk} (hw : d.WF) (hr : d.row = []) {s : Nat} (hs : s < 2) {A E : Bytes} (h : Good (Qm s A E) d) (hA : 8 ≤ d.n ∨ A = z256) (N : Nat) : Good (Qm s A E) { d with n := max d.n (N * 4), dur := d.dur ++ List.replicate ((N * 4 - d.n) * 64) 0 } := by
  refine ⟨fun k hk => ?_, h.row⟩
  have hk' : k < max d.n (N * 4) := hk
  have hl := hw.len
  show Qm s A E k (sect (d.dur ++ List.replicate ((N * 4 - d.n) * 64) 0) k)
  by_cases h1 : k < d.n
  · rw [sect_app (by omega)]
    exact h.dur k h1
  · rw [sect_zeros (by omega) (by omega)]
    refine ⟨fun e => ?_, fun _ => .inl rfl⟩
    rcases hA with hA | rfl
    · omega
    · exact (sect_z256 (Nat.mod_lt _ (by decide))).symm
theorem rds_yes {d : Dk.Dsk} {l : List Wt} {L : List (List Wt)} (h : (wrs d l).2 = 0) (h2 : (wrs d l).1.sync.2 = 0) : rds d (l :: L) = rds (wrs d l).1.sync.1 L := by rw [rds, if_pos h, if_pos h2]
theorem rds_no {d : Dk.Dsk} {l : List Wt} {L : List (List Wt)} {r : Dk.Dsk × Int} (h : (wrs d l).2 = 0 ∧ (wrs d l).1.sync.2 ≠ 0 ∧ (wrs d l).1.sync = r ∨ (wrs d l).2 ≠ 0 ∧ wrs d l = r) : rds d (l :: L) = r := by
  rcases h with ⟨h1, h2, h3⟩ | ⟨h1, h2⟩
  · rw [rds, if_pos h1, if_neg h2, h3]
  · rw [rds, if_neg h1, h2]
/-- A commit's two rounds. -/
theorem cm_go {d : Dk.Dsk} (hw : d.WF) (hd : d.down = false) (hr : d.row = []) {s : Nat} (hs : s < 2) {A E b : Bytes} (hb : b.length = 256) {N : Nat} (hN : 2 ≤ N) {ws : List Wt} (hfit : ∀ y ∈ ws, fitW N y = true) (hg : Good (Qm s A E) d) (hA : 8 ≤ d.n ∨ A = z256) (hl : N * 4 ≤ d.limit) :
    (Done d (ws.length + 4) N (wrP d (N : Int) [((s : Int), z256) :: ws, [((s : Int), b)]]) ∧ Good (Qe s A b) (wrP d (N : Int) [((s : Int), z256) :: ws, [((s : Int), b)]]).1)
    ∨ (Fell d N (wrP d (N : Int) [((s : Int), z256) :: ws, [((s : Int), b)]]) ∧ (Good (Qm s A E) (wrP d (N : Int) [((s : Int), z256) :: ws, [((s : Int), b)]]).1 ∨ Good (Qm s A b) (wrP d (N : Int) [((s : Int), z256) :: ws, [((s : Int), b)]]).1)) := by
  obtain ⟨eg, wg⟩ := grow_go hw hd hr hl
  have gg := grow_mix hw hr hs hg hA N
  obtain ⟨d1, hd1⟩ : ∃ z, z = ({ d with n := max d.n (N * 4), dur := d.dur ++ List.replicate ((N * 4 - d.n) * 64) 0 } : Dk.Dsk) := ⟨_, rfl⟩
  rw [← hd1] at eg wg gg
  have ew : wrP d (N : Int) [((s : Int), z256) :: ws, [((s : Int), b)]] = rds d1 [((s : Int), z256) :: ws, [((s : Int), b)]] := by
    unfold wrP
    rw [eg, if_pos rfl]
  rw [ew]
  have n1 : d1.n = max d.n (N * 4) := by rw [hd1]
  have l1 : d1.limit = d.limit := by rw [hd1]
  have a1 : d1.armed = d.armed := by rw [hd1]
  have o1 : d1.ops = d.ops := by rw [hd1]
  have dn1 : d1.down = false := by rw [hd1]; exact hd
  have r1 : d1.row = [] := by rw [hd1]; exact hr
  have hf1 : ∀ y ∈ ((s : Int), z256) :: ws, FitN d1.n y := fun y hy => by
    rcases List.mem_cons.1 hy with rfl | hy
    · exact fitN_page hs z256_len (by omega)
    · exact (fitN_of (hfit y hy) (by omega)).1
  have hq1 : ∀ e ∈ rowsOf (((s : Int), z256) :: ws), Qm s A E e.1 e.2 := fun e he => by
    rw [rowsOf_cons] at he
    rcases List.mem_append.1 he with he | he
    · obtain ⟨j, hj, e1, e2⟩ := page_mem z256_len he
      refine ⟨fun h => by omega, fun _ => .inl ?_⟩
      rw [e2, sect_z256 hj]
    · have := ws_far hfit he
      exact ⟨fun h => by omega, fun h => by omega⟩
  rcases round_go wg dn1 r1 _ hf1 gg hq1 with ⟨e0, f0, eq2, w2, g2⟩ | ⟨ha, r, hor, f0, fdn, fn, fl, fw, fg⟩
  · rw [rds_yes e0 f0]
    obtain ⟨d2, hd2⟩ : ∃ z, z = (wrs d1 (((s : Int), z256) :: ws)).1.sync.1 := ⟨_, rfl⟩
    rw [← hd2] at w2 g2 eq2 ⊢
    have n2 : d2.n = max d.n (N * 4) := by rw [eq2]; exact n1
    have l2 : d2.limit = d.limit := by rw [eq2]; exact l1
    have a2 : d2.armed = d.armed := by rw [eq2]; exact a1
    have o2 : d2.ops = d.ops + (ws.length + 2) := by rw [eq2]; show d1.ops + (ws.length + 1) + 1 = _; rw [o1]; omega
    have dn2 : d2.down = false := by rw [eq2]; exact dn1
    have r2 : d2.row = [] := by rw [eq2]
    have u2 : d2.dur = Dk.look d1.dur (rowsOf (((s : Int), z256) :: ws)) := by rw [eq2]
    clear eq2 hd2
    have gz : ∀ k, k < d2.n → k / 4 = s → sect d2.dur k = z64 := fun k hk hks => by
      rw [u2]
      refine look_last (n := d1.n) _ _ (rowsOf_fits hf1) wg.len (by omega) (.inr ⟨(s * 4 + k % 4, sect z256 (k % 4)), ?_, by show s * 4 + k % 4 = k; omega⟩) (fun e he hek => ?_)
      · rw [rowsOf_cons]
        exact List.mem_append.2 (.inl (mem_page z256_len (Nat.mod_lt _ (by decide))))
      · rw [rowsOf_cons] at he
        rcases List.mem_append.1 he with he | he
        · obtain ⟨j, hj, e1, e2⟩ := page_mem z256_len he
          rw [e2, sect_z256 hj]
        · have := ws_far hfit he
          omega
    have g2' : Good (Qm s A b) d2 := ⟨fun k hk => ⟨(g2.dur k hk).1, fun h => .inl (gz k hk h)⟩, by rw [r2]; intro e he; cases he⟩
    have hf2 : ∀ y ∈ [((s : Int), b)], FitN d2.n y := fun y hy => by
      rcases List.mem_cons.1 hy with rfl | hy
      · exact fitN_page hs hb (by omega)
      · cases hy
    have hq2 : ∀ e ∈ rowsOf [((s : Int), b)], Qm s A b e.1 e.2 := fun e he => by
      rw [rowsOf_cons] at he
      rcases List.mem_append.1 he with he | he
      · obtain ⟨j, hj, e1, e2⟩ := page_mem hb he
        refine ⟨fun h => by omega, fun _ => .inr ?_⟩
        rw [e2]
        congr 1
        omega
      · cases he
    rcases round_go w2 dn2 r2 _ hf2 g2' hq2 with ⟨e3, f3, eq3, w3, g3⟩ | ⟨ha, r, hor, f3, fdn, fn, fl, fw, fg⟩
    · rw [rds_yes e3 f3]
      obtain ⟨d3, hd3⟩ : ∃ z, z = (wrs d2 [((s : Int), b)]).1.sync.1 := ⟨_, rfl⟩
      rw [← hd3] at w3 g3 eq3 ⊢
      left
      have u3 : d3.dur = Dk.look d2.dur (rowsOf [((s : Int), b)]) := by rw [eq3]
      have r3 : d3.row = [] := by rw [eq3]
      have n3 : d3.n = d2.n := by rw [eq3]
      refine ⟨⟨rfl, by show d3.down = false; rw [eq3]; exact dn2, r3, by show d3.n = _; rw [n3]; exact n2, by show d3.limit = _; rw [eq3]; exact l2, by show d3.armed = _; rw [eq3]; exact a2, by show d3.ops = _; rw [eq3]; show d2.ops + 1 + 1 = _; rw [o2]; omega, w3⟩, ⟨fun k hk => ⟨(g3.dur k hk).1, fun hks => ?_⟩, by show ∀ e ∈ d3.row, _; rw [r3]; intro e he; cases he⟩⟩
      show sect d3.dur k = _
      have hk' : k < d3.n := hk
      rw [u3]
      refine look_last (n := d2.n) _ _ (rowsOf_fits hf2) w2.len (by omega) (.inr ⟨(s * 4 + k % 4, sect b (k % 4)), ?_, by show s * 4 + k % 4 = k; omega⟩) (fun e he hek => ?_)
      · rw [rowsOf_cons]
        exact List.mem_append.2 (.inl (mem_page hb (Nat.mod_lt _ (by decide))))
      · rw [rowsOf_cons] at he
        rcases List.mem_append.1 he with he | he
        · obtain ⟨j, hj, e1, e2⟩ := page_mem hb he
          rw [e2]
          congr 1
          omega
        · cases he
    · rw [rds_no hor]
      right
      exact ⟨⟨by rw [← a2]; exact ha, f3, fdn, fn.trans n2, fl.trans l2, fw⟩, .inr fg⟩
  · rw [rds_no hor]
    right
    exact ⟨⟨by rw [← a1]; exact ha, f0, fdn, fn.trans n1, fl.trans l1, fw⟩, .inl fg⟩
/-- A format's round, on a disk that has nothing. -/
theorem fm_go {d : Dk.Dsk} (hw : d.WF) (hd : d.down = false) (hr : d.row = []) (ha : d.armed = false) {s : Nat} (hs : s < 2) {a b : Bytes} (hal : a.length = 256) (hb : b.length = 256) {N : Nat} (hN : 2 ≤ N) (hl : N * 4 ≤ d.limit) :
    Done d 3 N (wrP d (N : Int) [[(((1 - s : Nat) : Int), a), ((s : Int), b)]]) ∧ Good (Qe s a b) (wrP d (N : Int) [[(((1 - s : Nat) : Int), a), ((s : Int), b)]]).1 := by
  obtain ⟨eg, wg⟩ := grow_go hw hd hr hl
  obtain ⟨d1, hd1⟩ : ∃ z, z = ({ d with n := max d.n (N * 4), dur := d.dur ++ List.replicate ((N * 4 - d.n) * 64) 0 } : Dk.Dsk) := ⟨_, rfl⟩
  rw [← hd1] at eg wg
  have ew : wrP d (N : Int) [[(((1 - s : Nat) : Int), a), ((s : Int), b)]] = rds d1 [[(((1 - s : Nat) : Int), a), ((s : Int), b)]] := by
    unfold wrP
    rw [eg, if_pos rfl]
  rw [ew]
  have n1 : d1.n = max d.n (N * 4) := by rw [hd1]
  have l1 : d1.limit = d.limit := by rw [hd1]
  have a1 : d1.armed = d.armed := by rw [hd1]
  have o1 : d1.ops = d.ops := by rw [hd1]
  have dn1 : d1.down = false := by rw [hd1]; exact hd
  have r1 : d1.row = [] := by rw [hd1]; exact hr
  have hf1 : ∀ y ∈ [(((1 - s : Nat) : Int), a), ((s : Int), b)], FitN d1.n y := fun y hy => by
    rcases List.mem_cons.1 hy with rfl | hy
    · exact fitN_page (by omega) hal (by omega)
    · rcases List.mem_cons.1 hy with rfl | hy
      · exact fitN_page hs hb (by omega)
      · cases hy
  have hmem : ∀ e ∈ rowsOf [(((1 - s : Nat) : Int), a), ((s : Int), b)], (∃ j, j < 4 ∧ e.1 = (1 - s) * 4 + j ∧ e.2 = sect a j) ∨ (∃ j, j < 4 ∧ e.1 = s * 4 + j ∧ e.2 = sect b j) := fun e he => by
    rw [rowsOf_cons, rowsOf_cons] at he
    rcases List.mem_append.1 he with he | he
    · exact .inl (page_mem hal he)
    · rcases List.mem_append.1 he with he | he
      · exact .inr (page_mem hb he)
      · cases he
  rcases round_go (Q := fun _ _ => True) wg dn1 r1 _ hf1 ⟨fun _ _ => trivial, fun _ _ => trivial⟩ (fun _ _ => trivial) with ⟨e0, f0, eq2, w2, _⟩ | ⟨hx, _⟩
  · rw [rds_yes e0 f0]
    obtain ⟨d2, hd2⟩ : ∃ z, z = (wrs d1 [(((1 - s : Nat) : Int), a), ((s : Int), b)]).1.sync.1 := ⟨_, rfl⟩
    rw [← hd2] at w2 eq2 ⊢
    have u2 : d2.dur = Dk.look d1.dur (rowsOf [(((1 - s : Nat) : Int), a), ((s : Int), b)]) := by rw [eq2]
    have r2 : d2.row = [] := by rw [eq2]
    have n2 : d2.n = d1.n := by rw [eq2]
    refine ⟨⟨rfl, by show d2.down = false; rw [eq2]; exact dn1, r2, by show d2.n = _; rw [n2]; exact n1, by show d2.limit = _; rw [eq2]; exact l1, by show d2.armed = _; rw [eq2]; exact a1, by show d2.ops = _; rw [eq2]; show d1.ops + 2 + 1 = _; rw [o1], w2⟩, ⟨fun k hk => ?_, by show ∀ e ∈ d2.row, _; rw [r2]; intro e he; cases he⟩⟩
    have hk' : k < d2.n := hk
    show Qe s a b k (sect d2.dur k)
    rw [u2]
    refine ⟨fun hks => ?_, fun hks => ?_⟩
    · refine look_last (n := d1.n) _ _ (rowsOf_fits hf1) wg.len (by omega) (.inr ⟨((1 - s) * 4 + k % 4, sect a (k % 4)), ?_, by show (1 - s) * 4 + k % 4 = k; omega⟩) (fun e he hek => ?_)
      · rw [rowsOf_cons]
        exact List.mem_append.2 (.inl (mem_page hal (Nat.mod_lt _ (by decide))))
      · rcases hmem e he with ⟨j, hj, e1, e2⟩ | ⟨j, hj, e1, e2⟩
        · rw [e2]
          congr 1
          omega
        · omega
    · refine look_last (n := d1.n) _ _ (rowsOf_fits hf1) wg.len (by omega) (.inr ⟨(s * 4 + k % 4, sect b (k % 4)), ?_, by show s * 4 + k % 4 = k; omega⟩) (fun e he hek => ?_)
      · rw [rowsOf_cons, rowsOf_cons]
        exact List.mem_append.2 (.inr (List.mem_append.2 (.inl (mem_page hb (Nat.mod_lt _ (by decide))))))
      · rcases hmem e he with ⟨j, hj, e1, e2⟩ | ⟨j, hj, e1, e2⟩
        · omega
        · rw [e2]
          congr 1
          omega
  · rw [a1, ha] at hx
    cases hx
end Go.Proofs.YtopaponemjaenaaGreatDoor
