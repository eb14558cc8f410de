/-
  What a commit leaves on a disk, sector by sector: plain data. No memory here.
-/
import Derived.Test.YtopaponemjaenaaGreatDoorPgf
import Derived.Test.YtopaponemjaenaaGreatDoorMzp
set_option linter.unusedVariables false
namespace Go.Proofs.YtopaponemjaenaaGreatDoor

def z64 : Bytes := List.replicate 64 0
theorem sect_over {T xs : Bytes} {e k : Nat} (hx : xs.length = 64) (h : e * 64 + 64 ≤ T.length) (hk : k * 64 + 64 ≤ T.length) : sect (over T (e * 64) xs) k = if k = e then xs else sect T k := by
  refine List.ext_getElem? fun i => ?_
  unfold sect
  by_cases hi : i < 64
  · rw [List.getElem?_take, if_pos hi, List.getElem?_drop, over_at9 _ _ _ _ (by omega), hx]
    by_cases h1 : k = e
    · subst h1
      rw [if_pos rfl, if_pos (by omega)]
      congr 1
      omega
    · rw [if_neg h1, if_neg (by omega), List.getElem?_take, if_pos hi, List.getElem?_drop]
  · rw [List.getElem?_take, if_neg hi]
    split
    · rw [List.getElem?_eq_none (by omega)]
    · rw [List.getElem?_take, if_neg hi]
abbrev SQ := Nat → Bytes → Prop
/-- Of each sector, durable or not, Q is true. -/
structure Good (Q : SQ) (d : Dk.Dsk) : Prop where
  dur : ∀ k, k < d.n → Q k (sect d.dur k)
  row : ∀ e ∈ d.row, Q e.1 e.2
theorem Good.imp {Q Q' : SQ} {d : Dk.Dsk} (h : Good Q d) (hq : ∀ k v, Q k v → Q' k v) : Good Q' d := ⟨fun k hk => hq k _ (h.dur k hk), fun e he => hq _ _ (h.row e he)⟩
theorem good_look {Q : SQ} {n : Nat} : ∀ (r : List Dk.Wr) (s : Bytes), Dk.Fits n r → s.length = n * 64 → (∀ k, k < n → Q k (sect s k)) → (∀ e ∈ r, Q e.1 e.2) → ∀ k, k < n → Q k (sect (Dk.look s r) k)
  | [], s, _, _, h, _ => h
  | e :: r, s, hf, hl, h, hr => by
    have he := hf e (by simp)
    have hlo : (Dk.put s e).length = n * 64 := (over_length _ _ _ (by omega)).trans hl
    refine good_look r (Dk.put s e) (fun x hx => hf x (by simp [hx])) hlo (fun k hk => ?_) (fun x hx => hr x (by simp [hx]))
    have hs : sect (Dk.put s e) k = if k = e.1 then e.2 else sect s k := sect_over he.2 (by omega) (by omega)
    rw [hs]
    split
    · rename_i e1
      rw [e1]
      exact hr e (by simp)
    · exact h k hk
theorem look_last {n k : Nat} {z : Bytes} : ∀ (r : List Dk.Wr) (s : Bytes), Dk.Fits n r → s.length = n * 64 → k < n → (sect s k = z ∨ ∃ e ∈ r, e.1 = k) → (∀ e ∈ r, e.1 = k → e.2 = z) → sect (Dk.look s r) k = z
  | [], s, _, _, _, h, _ => by
    rcases h with h | ⟨e, he, _⟩
    · exact h
    · cases he
  | e :: r, s, hf, hl, hk, h, hz => by
    have he := hf e (by simp)
    have hlo : (Dk.put s e).length = n * 64 := (over_length _ _ _ (by omega)).trans hl
    refine look_last r (Dk.put s e) (fun x hx => hf x (by simp [hx])) hlo hk ?_ (fun x hx => hz x (by simp [hx]))
    have hs : sect (Dk.put s e) k = if k = e.1 then e.2 else sect s k := sect_over he.2 (by omega) (by omega)
    by_cases h1 : k = e.1
    · left
      rw [hs, if_pos h1]
      exact hz e (by simp) h1.symm
    · rcases h with h | ⟨x, hx, hxk⟩
      · left
        rw [hs, if_neg h1]
        exact h
      · rcases List.mem_cons.1 hx with rfl | hx
        · exact absurd hxk.symm h1
        · exact .inr ⟨x, hx, hxk⟩
theorem Good.see {Q : SQ} {d : Dk.Dsk} (h : Good Q d) (hw : d.WF) : ∀ k, k < d.n → Q k (sect d.see k) := good_look d.row d.dur hw.fits hw.len h.dur h.row
theorem Good.crash {Q : SQ} {d : Dk.Dsk} (h : Good Q d) (hw : d.WF) (keep : List Bool) : Good Q (d.crash keep) :=
  ⟨good_look _ d.dur (Dk.kept_fits hw.fits) hw.len h.dur (fun e he => h.row e (Dk.kept_mem _ _ _ e he)), (fun e he => nomatch he)⟩
theorem crash_wf {d : Dk.Dsk} (hw : d.WF) (keep : List Bool) : (d.crash keep).WF :=
  ⟨hw.nl, hw.lim, Dk.look_length _ _ (Dk.kept_fits hw.fits) hw.len, (fun e he => nomatch he), (by show (0 : Nat) < _; decide)⟩

/-- What some ops leave as it was, and how they end. -/
structure Goes (d : Dk.Dsk) (k : Nat) (r : Dk.Dsk × Int) : Prop where
  n : r.1.n = d.n
  limit : r.1.limit = d.limit
  armed : r.1.armed = d.armed
  left : r.1.left ≤ d.left
  ends : (r.2 = 0 ∧ r.1.down = false ∧ r.1.ops = d.ops + k) ∨ (r.2 = 10 ∧ r.1.down = true ∧ d.armed = true)
theorem op_goes (d : Dk.Dsk) (hd : d.down = false) : Goes d 1 d.op ∧ d.op.1.dur = d.dur ∧ d.op.1.row = d.row := by
  unfold Dk.Dsk.op
  by_cases h1 : d.armed = false
  · rw [if_pos h1]
    exact ⟨⟨rfl, rfl, rfl, Nat.le_refl _, .inl ⟨rfl, hd, rfl⟩⟩, rfl, rfl⟩
  · rw [if_neg h1]
    have h1' : d.armed = true := by simpa using h1
    split
    · exact ⟨⟨rfl, rfl, rfl, Nat.sub_le _ _, .inl ⟨rfl, hd, rfl⟩⟩, rfl, rfl⟩
    · exact ⟨⟨rfl, rfl, rfl, Nat.le_refl _, .inr ⟨rfl, rfl, h1'⟩⟩, rfl, rfl⟩
def FitN (n : Nat) (x : Wt) : Prop := 0 ≤ x.1 ∧ 0 < x.2.length ∧ x.2.length % 64 = 0 ∧ x.1.toNat * 4 + x.2.length / 64 ≤ n
def rowOf (x : Wt) : List Dk.Wr := Dk.chunks (x.1.toNat * 4) x.2 (x.2.length / 64)
def rowsOf (l : List Wt) : List Dk.Wr := l.flatMap rowOf
theorem rowOf_mem {x : Wt} {e : Dk.Wr} (h : e ∈ rowOf x) : ∃ j, j < x.2.length / 64 ∧ e.1 = x.1.toNat * 4 + j ∧ e.2 = sect x.2 j := by
  unfold rowOf Dk.chunks at h
  simp only [List.mem_map, List.mem_range] at h
  obtain ⟨j, hj, rfl⟩ := h
  exact ⟨j, hj, rfl, by unfold sect; rw [Nat.mul_comm 64 j]⟩
theorem mem_rowOf {x : Wt} {j : Nat} (hj : j < x.2.length / 64) : (x.1.toNat * 4 + j, sect x.2 j) ∈ rowOf x := by
  unfold rowOf Dk.chunks
  simp only [List.mem_map, List.mem_range]
  exact ⟨j, hj, by unfold sect; rw [Nat.mul_comm 64 j]⟩
theorem rowsOf_fits {n : Nat} {l : List Wt} (h : ∀ y ∈ l, FitN n y) : Dk.Fits n (rowsOf l) := fun e he => by
  unfold rowsOf at he
  obtain ⟨y, hy, he⟩ := List.mem_flatMap.1 he
  obtain ⟨_, _, h3, h4⟩ := h y hy
  exact Dk.chunks_fits h4 (by omega) e he
theorem write_go {d : Dk.Dsk} {x : Wt} (hd : d.down = false) (hf : FitN d.n x) : d.write (x.1 * 4) x.2 = ({ d with row := d.row ++ rowOf x } : Dk.Dsk).op := by
  obtain ⟨h1, h2, h3, h4⟩ := hf
  have e : (x.1 * 4).toNat = x.1.toNat * 4 := by omega
  unfold Dk.Dsk.write
  rw [if_neg (by rw [hd]; decide), if_neg (by omega), if_neg (by
    unfold Dk.Dsk.has
    rw [Bool.not_eq_false, Bool.and_eq_true, Bool.and_eq_true, decide_eq_true_eq, decide_eq_true_eq, decide_eq_true_eq]
    omega), e]
  rfl
theorem wrs_go : ∀ (l : List Wt) (d : Dk.Dsk), d.down = false → (∀ y ∈ l, FitN d.n y) → Goes d l.length (wrs d l) ∧ (wrs d l).1.dur = d.dur ∧ (∀ e ∈ (wrs d l).1.row, e ∈ d.row ∨ e ∈ rowsOf l) ∧ ((wrs d l).2 = 0 → (wrs d l).1.row = d.row ++ rowsOf l)
  | [], d, hd, _ => ⟨⟨rfl, rfl, rfl, Nat.le_refl _, .inl ⟨rfl, hd, rfl⟩⟩, rfl, fun e he => .inl he, fun _ => by show d.row = d.row ++ []; rw [List.append_nil]⟩
  | x :: r, d, hd, hf => by
    have hx := hf x (by simp)
    have hw := write_go hd hx
    obtain ⟨hg, h1, h2⟩ := op_goes ({ d with row := d.row ++ rowOf x } : Dk.Dsk) hd
    rw [← hw] at hg h1 h2
    have hro : rowsOf (x :: r) = rowOf x ++ rowsOf r := by unfold rowsOf; rw [List.flatMap_cons]
    by_cases h0 : (d.write (x.1 * 4) x.2).2 = 0
    · rw [wrs_ok h0]
      have hdn : (d.write (x.1 * 4) x.2).1.down = false := by
        rcases hg.ends with h | h
        · exact h.2.1
        · rw [h0] at h
          exact absurd h.1 (by decide)
      have hops : (d.write (x.1 * 4) x.2).1.ops = d.ops + 1 := by
        rcases hg.ends with h | h
        · exact h.2.2
        · rw [h0] at h
          exact absurd h.1 (by decide)
      obtain ⟨ig, i1, i2, i3⟩ := wrs_go r (d.write (x.1 * 4) x.2).1 hdn (fun y hy => by rw [hg.n]; exact hf y (by simp [hy]))
      refine ⟨⟨ig.n.trans hg.n, ig.limit.trans hg.limit, ig.armed.trans hg.armed, Nat.le_trans ig.left hg.left, ?_⟩, i1.trans h1, fun e he => ?_, fun he => ?_⟩
      · rcases ig.ends with h | h
        · refine .inl ⟨h.1, h.2.1, ?_⟩
          rw [h.2.2, hops, List.length_cons]
          omega
        · exact .inr ⟨h.1, h.2.1, by rw [← h.2.2, hg.armed]⟩
      · rw [hro]
        rcases i2 e he with h | h
        · rw [h2] at h
          rcases List.mem_append.1 h with h | h
          · exact .inl h
          · exact .inr (List.mem_append.2 (.inl h))
        · exact .inr (List.mem_append.2 (.inr h))
      · rw [i3 he, h2, hro]
        show d.row ++ rowOf x ++ rowsOf r = _
        rw [List.append_assoc]
    · rw [wrs_bad h0]
      refine ⟨⟨hg.n, hg.limit, hg.armed, hg.left, ?_⟩, h1, fun e he => ?_, fun he => absurd he h0⟩
      · rcases hg.ends with h | h
        · exact absurd h.1 h0
        · exact .inr h
      · rw [h2] at he
        rw [hro]
        rcases List.mem_append.1 he with h | h
        · exact .inl h
        · exact .inr (List.mem_append.2 (.inl h))
theorem sync_go (d : Dk.Dsk) (hd : d.down = false) : Goes d 1 d.sync ∧ (d.sync.2 = 0 → d.sync.1.dur = d.see ∧ d.sync.1.row = []) ∧ (d.sync.2 ≠ 0 → d.sync.1.dur = d.dur ∧ d.sync.1.row = d.row) := by
  obtain ⟨hg, h1, h2⟩ := op_goes d hd
  unfold Dk.Dsk.sync
  rw [if_neg (by rw [hd]; decide)]
  by_cases h0 : d.op.2 ≠ 0
  · rw [if_pos h0]
    exact ⟨hg, fun h => absurd h h0, fun _ => ⟨h1, h2⟩⟩
  · rw [if_neg h0]
    have h0' : d.op.2 = 0 := by simpa using h0
    refine ⟨⟨hg.n, hg.limit, hg.armed, hg.left, ?_⟩, fun _ => ⟨rfl, rfl⟩, fun h => absurd rfl h⟩
    rcases hg.ends with h | h
    · exact .inl ⟨rfl, h.2.1, h.2.2⟩
    · rw [h0'] at h
      exact absurd h.1 (by decide)
/-- A round: writes, and Sync. -/
theorem round_go {Q : SQ} {d : Dk.Dsk} (hw : d.WF) (hd : d.down = false) (hr : d.row = []) (l : List Wt) (hf : ∀ y ∈ l, FitN d.n y) (hq : Good Q d) (hl : ∀ e ∈ rowsOf l, Q e.1 e.2) :
    ((wrs d l).2 = 0 ∧ (wrs d l).1.sync.2 = 0 ∧ (wrs d l).1.sync.1 = { d with dur := Dk.look d.dur (rowsOf l), row := [], ops := d.ops + l.length + 1, left := (wrs d l).1.sync.1.left } ∧ (wrs d l).1.sync.1.WF ∧ Good Q (wrs d l).1.sync.1)
    ∨ (d.armed = true ∧ ∃ r, ((wrs d l).2 = 0 ∧ (wrs d l).1.sync.2 ≠ 0 ∧ (wrs d l).1.sync = r ∨ (wrs d l).2 ≠ 0 ∧ wrs d l = r) ∧ r.2 = 10 ∧ r.1.down = true ∧ r.1.n = d.n ∧ r.1.limit = d.limit ∧ r.1.WF ∧ Good Q r.1) := by
  obtain ⟨hg, h1, h2, h3⟩ := wrs_go l d hd hf
  have hfi : Dk.Fits d.n (rowsOf l) := rowsOf_fits hf
  have hW : (wrs d l).1.WF := ⟨by rw [hg.n, hg.limit]; exact hw.nl, by rw [hg.limit]; exact hw.lim, by rw [h1, hg.n]; exact hw.len, fun e he => by
    rw [hg.n]
    rcases h2 e he with h | h
    · exact hw.fits e h
    · exact hfi e h, Nat.lt_of_le_of_lt hg.left hw.left⟩
  have hG : Good Q (wrs d l).1 := ⟨fun k hk => by rw [h1]; rw [hg.n] at hk; exact hq.dur k hk, fun e he => by
    rcases h2 e he with h | h
    · exact hq.row e h
    · exact hl e h⟩
  rcases hg.ends with ⟨e0, hdn, hops⟩ | ⟨e0, hdn, ha⟩
  · obtain ⟨sg, s1, s2⟩ := sync_go (wrs d l).1 hdn
    rcases sg.ends with ⟨f0, fdn, fops⟩ | ⟨f0, fdn, fa⟩
    · obtain ⟨g1, g2⟩ := s1 f0
      left
      have hsee : (wrs d l).1.see = Dk.look d.dur (rowsOf l) := by unfold Dk.Dsk.see; rw [h1, h3 e0, hr, List.nil_append]
      refine ⟨e0, f0, ?_, ⟨?_, ?_, ?_, ?_, ?_⟩, ⟨?_, ?_⟩⟩
      · obtain ⟨L, n, du, ro, op, ar, le, dn⟩ := d
        generalize hz : (wrs _ l).1.sync.1 = z at *
        obtain ⟨L', n', du', ro', op', ar', le', dn'⟩ := z
        have a1 := sg.n
        have a2 := sg.limit
        have a3 := sg.armed
        rw [hz] at a1 a2 a3
        rw [hg.n] at a1
        rw [hg.limit] at a2
        rw [hg.armed] at a3
        simp only at a1 a2 a3 g1 g2 fdn fops hsee hops hd
        simp only [Dk.Dsk.mk.injEq]
        exact ⟨a2, a1, g1.trans hsee, g2, by rw [fops, hops], a3, trivial, fdn.trans hd.symm⟩
      · rw [sg.n, sg.limit]; exact hW.nl
      · rw [sg.limit]; exact hW.lim
      · rw [g1, sg.n]; exact hW.see
      · rw [g2]; intro e he; cases he
      · exact Nat.lt_of_le_of_lt sg.left hW.left
      · intro k hk
        rw [g1]
        rw [sg.n] at hk
        exact hG.see hW k hk
      · rw [g2]; intro e he; cases he
    · have fne : (wrs d l).1.sync.2 ≠ 0 := by rw [f0]; decide
      obtain ⟨g1, g2⟩ := s2 fne
      right
      refine ⟨by rw [← fa, hg.armed], _, .inl ⟨e0, fne, rfl⟩, f0, fdn, sg.n.trans hg.n, sg.limit.trans hg.limit, ⟨?_, ?_, ?_, ?_, ?_⟩, ⟨?_, ?_⟩⟩
      · rw [sg.n, sg.limit]; exact hW.nl
      · rw [sg.limit]; exact hW.lim
      · rw [g1, sg.n]; exact hW.len
      · rw [g2, sg.n]; exact hW.fits
      · exact Nat.lt_of_le_of_lt sg.left hW.left
      · intro k hk
        rw [g1]
        rw [sg.n] at hk
        exact hG.dur k hk
      · rw [g2]; exact hG.row
  · right
    exact ⟨ha, _, .inr ⟨by rw [e0]; decide, rfl⟩, e0, hdn, hg.n, hg.limit, hW, hG⟩
end Go.Proofs.YtopaponemjaenaaGreatDoor
