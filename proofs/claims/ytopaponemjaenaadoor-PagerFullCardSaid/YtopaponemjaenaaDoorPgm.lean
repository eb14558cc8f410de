/-
  What the laws ask of commits, one behind the other: plain data. No memory here.
-/
import Derived.Test.YtopaponemjaenaaDoorPgu
import Derived.Test.YtopaponemjaenaaDoorPgq
set_option linter.unusedVariables false
namespace Go.Proofs.YtopaponemjaenaaDoor

theorem okM_facts {g ph t x r p l : Int} {n : Nat} (h : okM g ph t x r p l n = true) : ∃ N K : Nat, p = N ∧ x = K ∧ 3 ≤ N ∧ N ≤ 16384 ∧ 1 ≤ K ∧ K ≤ 2147483647 := by
  have h1 := of_decide_eq_true h
  unfold okP at h1
  exact ⟨p.toNat, x.toNat, by omega, by omega, by omega, by omega, by omega, by omega⟩
theorem right_facts {g ph t x r p l : Int} {n : Nat} {ws : List Wt} (h : pgRight (okM g ph t x r p l n) p ws = true) : okM g ph t x r p l n = true ∧ ∀ y ∈ ws, fitW p.toNat y = true := by
  unfold pgRight at h
  rw [Bool.and_eq_true] at h
  exact ⟨h.1, right_fit ws _ h.2⟩
theorem cmP_eq {d : Dk.Dsk} {g ph t : Int} {K : Nat} {r : Int} {N : Nat} {l : Int} {n : Nat} {ws : List Wt} {b : Bytes} (h : pgRight (okM g ph t K r N l n) N ws = true) (hK : K ≤ 2147483647) : cmP d (okM g ph t K r N l n) N K ws b = wrP d (N : Int) [(((K % 2 : Nat) : Int), z256) :: ws, [(((K % 2 : Nat) : Int), b)]] := by
  unfold cmP
  rw [if_pos h, sl_pg hK]
theorem load_zero (limit : Int) : Dk.Dsk.load [] limit = ⟨Dk.cut limit, 0, [], [], 0, false, 0, false⟩ := by
  unfold Dk.Dsk.load
  simp [Dk.pad]
theorem good_none {Q : SQ} {d : Dk.Dsk} (h : d.n = 0) (hr : d.row = []) : Good Q d := ⟨fun k hk => by omega, by rw [hr]; intro e he; cases he⟩
section
variable {g ph t r l : Int} {K N n : Nat} {ws : List Wt} {b : Bytes}
theorem full_yes {limit : Int} (h : pgRight (okM g ph t K r N l n) N ws = true) (hb : b.length = 256) (h1 : (N : Int) * 4 ≤ limit) (h2 : N ≤ 40) :
    Done (Dk.Dsk.load [] limit) (ws.length + 4) N (cmP (Dk.Dsk.load [] limit) (okM g ph t K r N l n) N K ws b) := by
  obtain ⟨hok, hfit⟩ := right_facts h
  obtain ⟨N', K', e1, e2, h3, h4, h5, h6⟩ := okM_facts hok
  rw [cmP_eq h (by omega)]
  rw [Int.toNat_natCast] at hfit
  have hz := load_zero limit
  have hc : N * 4 ≤ (Dk.Dsk.load [] limit).limit := by
    rw [hz]
    show N * 4 ≤ min limit.toNat 65536
    omega
  rcases cm_go (A := z256) (E := z256) (Dk.Dsk.WF.load [] limit) rfl rfl (Nat.mod_lt K (by decide)) hb (by omega) hfit (good_none (by rw [hz]) rfl) (.inr rfl) hc with h7 | h7
  · exact h7.1
  · have h8 := h7.1.armed
    cases h8
theorem full_no {limit : Int} (h : pgRight (okM g ph t K r N l n) N ws = true) (h1 : limit < (N : Int) * 4) (h2 : N ≤ 40) :
    cmP (Dk.Dsk.load [] limit) (okM g ph t K r N l n) N K ws b = (Dk.Dsk.load [] limit, 12) := by
  obtain ⟨hok, hfit⟩ := right_facts h
  obtain ⟨N', K', e1, e2, h3, h4, h5, h6⟩ := okM_facts hok
  rw [cmP_eq h (by omega)]
  have hg : (Dk.Dsk.load [] limit).grow ((N : Int) * 4) = (Dk.Dsk.load [] limit, 12) := by
    unfold Dk.Dsk.grow
    rw [load_zero, if_neg (by show ¬ (false = true); decide), if_pos]
    show ((min limit.toNat 65536 : Nat) : Int) < _
    omega
  unfold wrP
  rw [hg]
  exact if_neg (by show ¬ (12 : Int) = 0; decide)
end
theorem sect_get {P : Bytes} {j i : Nat} : (sect P j)[i]? = if i < 64 then P[64 * j + i]? else none := by
  unfold sect
  rw [List.getElem?_take]
  split
  · rw [List.getElem?_drop]
  · rfl
theorem page_is {xs A : Bytes} {P : Nat} (hA : A.length = 256) (h : ∀ j, j < 4 → sect xs (P * 4 + j) = sect A j) : (xs.drop (P * 256)).take 256 = A := by
  refine List.ext_getElem? fun i => ?_
  rw [List.getElem?_take]
  by_cases hi : i < 256
  · rw [if_pos hi, List.getElem?_drop]
    have h1 := congrArg (fun z : Bytes => z[i % 64]?) (h (i / 64) (by omega))
    simp only [sect_get] at h1
    rw [if_pos (by omega), if_pos (by omega)] at h1
    rw [show P * 256 + i = 64 * (P * 4 + i / 64) + i % 64 by omega, h1]
    congr 1
    omega
  · rw [if_neg hi, List.getElem?_eq_none (by omega)]
theorem page_mix {xs E : Bytes} {P : Nat} (hE : E.length = 256) (h : ∀ j, j < 4 → sect xs (P * 4 + j) = z64 ∨ sect xs (P * 4 + j) = sect E j) : ∃ k0 k1 k2 k3 : Bool, (xs.drop (P * 256)).take 256 = zT k0 k1 k2 k3 E := by
  have one : ∀ j, j < 4 → ∃ k : Bool, ∀ i, 64 * j ≤ i → i < 64 * j + 64 → xs[P * 256 + i]? = if k = true then E[i]? else some 0 := fun j hj => by
    rcases h j hj with h1 | h1
    · refine ⟨false, fun i h2 h3 => ?_⟩
      have h4 := congrArg (fun z : Bytes => z[i - 64 * j]?) h1
      simp only [sect_get] at h4
      rw [if_pos (by omega), show 64 * (P * 4 + j) + (i - 64 * j) = P * 256 + i by omega] at h4
      rw [h4, if_neg (by decide)]
      unfold z64
      rw [List.getElem?_replicate, if_pos (by omega)]
    · refine ⟨true, fun i h2 h3 => ?_⟩
      have h4 := congrArg (fun z : Bytes => z[i - 64 * j]?) h1
      simp only [sect_get] at h4
      rw [if_pos (by omega), if_pos (by omega), show 64 * (P * 4 + j) + (i - 64 * j) = P * 256 + i by omega, show 64 * j + (i - 64 * j) = i by omega] at h4
      rw [h4, if_pos rfl]
  obtain ⟨k0, c0⟩ := one 0 (by decide)
  obtain ⟨k1, c1⟩ := one 1 (by decide)
  obtain ⟨k2, c2⟩ := one 2 (by decide)
  obtain ⟨k3, c3⟩ := one 3 (by decide)
  refine ⟨k0, k1, k2, k3, List.ext_getElem? fun i => ?_⟩
  rw [List.getElem?_take, zT_get hE]
  by_cases hi : i < 256
  · rw [if_pos hi, List.getElem?_drop]
    have hz : z256[i]? = some 0 := by unfold z256; rw [List.getElem?_replicate, if_pos hi]
    rw [hz]
    by_cases h3 : 192 ≤ i
    · rw [c3 i (by omega) (by omega)]
      cases k3
      · rw [if_neg (by decide), if_neg (fun e => by cases e.1), if_neg (by omega), if_neg (by omega), if_neg (by omega)]
      · rw [if_pos rfl, if_pos ⟨rfl, by omega, by omega⟩]
    rw [if_neg (c := k3 = true ∧ 192 ≤ i ∧ i < 256) (by omega)]
    by_cases h2 : 128 ≤ i
    · rw [c2 i (by omega) (by omega)]
      cases k2
      · rw [if_neg (by decide), if_neg (fun e => by cases e.1), if_neg (by omega), if_neg (by omega)]
      · rw [if_pos rfl, if_pos ⟨rfl, by omega, by omega⟩]
    rw [if_neg (c := k2 = true ∧ 128 ≤ i ∧ i < 192) (by omega)]
    by_cases h1 : 64 ≤ i
    · rw [c1 i (by omega) (by omega)]
      cases k1
      · rw [if_neg (by decide), if_neg (fun e => by cases e.1), if_neg (by omega)]
      · rw [if_pos rfl, if_pos ⟨rfl, by omega, by omega⟩]
    rw [if_neg (c := k1 = true ∧ 64 ≤ i ∧ i < 128) (by omega), c0 i (by omega) (by omega)]
    cases k0
    · rw [if_neg (by decide), if_neg (fun e => by cases e.1)]
    · rw [if_pos rfl, if_pos ⟨rfl, by omega, by omega⟩]
  · rw [if_neg hi, if_neg (by omega), if_neg (by omega), if_neg (by omega), if_neg (by omega), List.getElem?_eq_none (by rw [z256_len]; omega)]
/-- These bytes are a meta. -/
structure Mt (b : Bytes) (M : List Int) (X : Bytes) (k : Nat) : Prop where
  e : mdE b = 0
  m : mdM b = M
  x : mdX b = X
  num : M.getD 3 0 = (k : Int)
  lo : 1 ≤ k
  hi : k ≤ 2147483647
theorem mt_enc {g ph t r p l : Int} {K : Nat} {xs : Bytes} (hok : okM g ph t K r p l xs.length = true) : Mt (encB [g, ph, t, K, r, p, l] xs) [g, ph, t, K, r, p, l] xs K := by
  obtain ⟨h1, h2, h3, _⟩ := enc_back hok
  obtain ⟨_, K', _, e2, _, _, h5, h6⟩ := okM_facts hok
  exact ⟨h1, h2, h3, rfl, by omega, by omega⟩
theorem chs_yes {b X : Bytes} {M : List Int} {k q : Nat} {s : ChS} (h : Mt b M X k) (hq : k % 2 = q) (hs : s.N.getD 3 0 < (k : Int)) : chStep (q : Int) s (mdM b) (mdX b) (mdE b) = ⟨M, X, q, s.why⟩ := by
  unfold chStep
  rw [h.e, h.m, h.x, h.num, if_neg (by decide), if_pos ⟨rfl, by rw [sl_pg h.hi, hq], hs⟩]
theorem chs_less {b X : Bytes} {M : List Int} {k : Nat} {q : Int} {s : ChS} (h : Mt b M X k) (hs : ¬ s.N.getD 3 0 < (k : Int)) : chStep q s (mdM b) (mdX b) (mdE b) = s := by
  unfold chStep
  rw [h.e, h.m, h.num, if_neg (by decide), if_neg (fun e => hs e.2.2)]
theorem chs_none {b : Bytes} {q : Int} {s : ChS} (h : mdE b = 90) : chStep q s (mdM b) (mdX b) (mdE b) = s := by
  unfold chStep
  rw [h, if_neg (by decide), if_neg (fun e => by cases e.1)]
theorem mdC_eq (a b : Bytes) : mdC a b = chStep 1 (chStep 0 ch0 (mdM a) (mdX a) (mdE a)) (mdM b) (mdX b) (mdE b) := rfl
/-- One page of two is none. -/
theorem ch_one {pg : Nat → Bytes} {s : Nat} (hs : s < 2) {M : List Int} {X : Bytes} {k : Nat} (hA : Mt (pg (1 - s)) M X k) (hk : k % 2 = 1 - s) (hB : mdE (pg s) = 90) : mdC (pg 0) (pg 1) = ⟨M, X, ((1 - s : Nat) : Int), 92⟩ := by
  rw [mdC_eq]
  have h0 : ch0.N.getD 3 0 < (k : Int) := by
    show (0 : Int) < (k : Int)
    have := hA.lo
    omega
  rcases (by omega : s = 0 ∨ s = 1) with rfl | rfl
  · rw [chs_none hB]
    exact chs_yes (q := 1) hA hk h0
  · have h1 := chs_yes (q := 0) hA hk h0
    rw [show ((0 : Nat) : Int) = 0 from rfl] at h1
    rw [h1, chs_none hB]
    rfl
/-- Two metas in their slots. -/
theorem ch_both {pg : Nat → Bytes} {s : Nat} (hs : s < 2) {M M' : List Int} {X X' : Bytes} {k k' : Nat} (hA : Mt (pg (1 - s)) M X k) (hk : k % 2 = 1 - s) (hB : Mt (pg s) M' X' k') (hk' : k' % 2 = s) : mdC (pg 0) (pg 1) = if k < k' then ⟨M', X', (s : Int), 92⟩ else ⟨M, X, ((1 - s : Nat) : Int), 92⟩ := by
  rw [mdC_eq]
  have h0 : ∀ j : Nat, 1 ≤ j → ch0.N.getD 3 0 < (j : Int) := fun j hj => by
    show (0 : Int) < (j : Int)
    omega
  rcases (by omega : s = 0 ∨ s = 1) with rfl | rfl
  · have h1 := chs_yes (q := 0) hB hk' (h0 _ hB.lo)
    rw [show ((0 : Nat) : Int) = 0 from rfl] at h1
    rw [h1]
    by_cases hlt : k < k'
    · rw [if_pos hlt]
      exact chs_less hA (by show ¬ M'.getD 3 0 < _; rw [hB.num]; omega)
    · rw [if_neg hlt]
      exact chs_yes (q := 1) hA hk (by show M'.getD 3 0 < _; rw [hB.num]; omega)
  · have h1 := chs_yes (q := 0) hA hk (h0 _ hA.lo)
    rw [show ((0 : Nat) : Int) = 0 from rfl] at h1
    rw [h1]
    by_cases hlt : k < k'
    · rw [if_pos hlt]
      exact chs_yes (q := 1) hB hk' (by show M.getD 3 0 < _; rw [hA.num]; omega)
    · rw [if_neg hlt]
      exact chs_less hB (by show ¬ M.getD 3 0 < _; rw [hA.num]; omega)
def pgOf (d : Dk.Dsk) (P : Nat) : Bytes := (d.see.drop (P * 256)).take 256
theorem page_read {d : Dk.Dsk} (hw : d.WF) (hd : d.down = false) {P : Nat} (hP : P * 4 + 4 ≤ d.n) : rdP d (P : Int) 1 = (pgOf d P, 0) := by
  have hn := Nat.le_trans hw.nl hw.lim
  unfold rdP
  rw [if_neg (by omega)]
  unfold rdD
  rw [if_neg (by rw [hd]; decide), if_neg (by
    unfold Dk.Dsk.has
    rw [Bool.not_eq_false, Bool.and_eq_true, Bool.and_eq_true, decide_eq_true_eq, decide_eq_true_eq, decide_eq_true_eq]
    omega), show ((P : Int) * 4).toNat * 64 = P * 256 by omega]
  rfl
theorem nwP_eq {d : Dk.Dsk} (hw : d.WF) (hd : d.down = false) (h8 : 8 ≤ d.n) : nwP d = mdC (pgOf d 0) (pgOf d 1) := by
  unfold nwP
  rw [if_neg (by rw [hd]; decide)]
  have h0 := page_read hw hd (P := 0) (by omega)
  have h1 := page_read hw hd (P := 1) (by omega)
  rw [show ((0 : Nat) : Int) = 0 from rfl] at h0
  rw [show ((1 : Nat) : Int) = 1 from rfl] at h1
  rw [h0, h1]
section
variable {d : Dk.Dsk} {s : Nat} {A E : Bytes}
theorem pg_other (hw : d.WF) (h8 : 8 ≤ d.n) (hs : s < 2) (hA : A.length = 256) (hg : Good (Qm s A E) d) : pgOf d (1 - s) = A :=
  page_is hA fun j hj => by
    have h1 := (hg.see hw ((1 - s) * 4 + j) (by omega)).1 (by omega)
    rw [h1]
    congr 1
    omega
theorem pg_mixed (hw : d.WF) (h8 : 8 ≤ d.n) (hs : s < 2) (hE : E.length = 256) (hg : Good (Qm s A E) d) : ∃ k0 k1 k2 k3 : Bool, pgOf d s = zT k0 k1 k2 k3 E :=
  page_mix hE fun j hj => by
    rcases (hg.see hw (s * 4 + j) (by omega)).2 (by omega) with h1 | h1
    · exact .inl h1
    · right
      rw [h1]
      congr 1
      omega
theorem pg_exact (hw : d.WF) (h8 : 8 ≤ d.n) (hs : s < 2) (hE : E.length = 256) (hg : Good (Qe s A E) d) : pgOf d s = E :=
  page_is hE fun j hj => by
    have h1 := (hg.see hw (s * 4 + j) (by omega)).2 (by omega)
    rw [h1]
    congr 1
    omega
end
/-- A meta, laid: its numbers, its cursor, its bytes. -/
structure Ml where
  g : Int
  ph : Int
  t : Int
  x : Nat
  r : Int
  p : Int
  l : Int
  xs : Bytes
def Ml.M (m : Ml) : List Int := [m.g, m.ph, m.t, m.x, m.r, m.p, m.l]
def Ml.b (m : Ml) : Bytes := encB m.M m.xs
def Ml.ok (m : Ml) : Prop := okM m.g m.ph m.t m.x m.r m.p m.l m.xs.length = true
theorem Ml.ok.mt {m : Ml} (h : m.ok) : Mt m.b m.M m.xs m.x := mt_enc h
theorem Ml.ok.len {m : Ml} (h : m.ok) : m.b.length = 256 := (enc_back h).2.2.2
theorem Ml.ok.zeros {m : Ml} (h : m.ok) (k0 k1 k2 k3 : Bool) : mdE (zT k0 k1 k2 k3 m.b) = 90 ∨ zT k0 k1 k2 k3 m.b = m.b := by
  cases k0 with
  | false => exact .inl (zT_no h.len (.inl rfl))
  | true =>
    cases k3 with
    | false => exact .inl (zT_no h.len (.inr rfl))
    | true =>
      right
      have hp := of_decide_eq_true h
      obtain ⟨G, PH, T, X, R, P, L, k, e1, e2, e3, e4, e5, e6, e7, hn⟩ := nats_of hp
      have hb : m.b = encB [(G : Int), PH, T, X, R, P, L] m.xs := by
        unfold Ml.b Ml.M
        rw [e1, e2, e3, e4, e5, e6, e7]
      rw [hb]
      exact zT_yes hn k1 k2
def Ml.at_ (m : Ml) (s : Nat) : ChS := ⟨m.M, m.xs, (s : Int), 92⟩
/-- Of the other meta, and one that is torn over zeros, the newer one is the newest, if it is whole. -/
theorem nw_mix {d : Dk.Dsk} (hw : d.WF) (hd : d.down = false) (h8 : 8 ≤ d.n) {s : Nat} (hs : s < 2) {a e : Ml} (ha : a.ok) (he : e.ok) (hka : a.x % 2 = 1 - s) (hke : e.x % 2 = s) (hg : Good (Qm s a.b e.b) d) :
    nwP d = a.at_ (1 - s) ∨ (nwP d = e.at_ s ∧ a.x < e.x) := by
  rw [nwP_eq hw hd h8]
  have h1 := pg_other hw h8 hs ha.len hg
  obtain ⟨k0, k1, k2, k3, h2⟩ := pg_mixed hw h8 hs he.len hg
  have hA : Mt (pgOf d (1 - s)) a.M a.xs a.x := by rw [h1]; exact ha.mt
  rcases he.zeros k0 k1 k2 k3 with h3 | h3
  · exact .inl (ch_one hs hA hka (by rw [h2]; exact h3))
  · have h4 := ch_both hs hA hka (by rw [h2, h3]; exact he.mt) hke
    by_cases hlt : a.x < e.x
    · rw [if_pos hlt] at h4
      exact .inr ⟨h4, hlt⟩
    · rw [if_neg hlt] at h4
      exact .inl h4
theorem nw_exact {d : Dk.Dsk} (hw : d.WF) (hd : d.down = false) (h8 : 8 ≤ d.n) {s : Nat} (hs : s < 2) {a e : Ml} (ha : a.ok) (he : e.ok) (hka : a.x % 2 = 1 - s) (hke : e.x % 2 = s) (hg : Good (Qe s a.b e.b) d) (hlt : a.x < e.x) : nwP d = e.at_ s := by
  rw [nwP_eq hw hd h8]
  have h1 := pg_other hw h8 hs ha.len (hg.imp Qe.mix)
  have h2 := pg_exact hw h8 hs he.len hg
  have h4 := ch_both (pg := pgOf d) hs (by rw [h1]; exact ha.mt) hka (by rw [h2]; exact he.mt) hke
  rw [if_pos hlt] at h4
  exact h4
/-- What a commit finds: the other meta's page, and one that is torn over zeros, or not. -/
structure St (s : Nat) (A E : Bytes) (d : Dk.Dsk) : Prop where
  wf : d.WF
  down : d.down = false
  row : d.row = []
  n8 : 8 ≤ d.n
  lim : d.limit = 400
  good : Good (Qm s A E) d
theorem St.of_crash {s : Nat} {A E : Bytes} {d : Dk.Dsk} (hw : d.WF) (h8 : 8 ≤ d.n) (hl : d.limit = 400) (hg : Good (Qm s A E) d) (keep : List Bool) : St s A E (d.crash keep) := ⟨crash_wf hw keep, rfl, rfl, h8, hl, hg.crash hw keep⟩
theorem arm_wf {d : Dk.Dsk} (hw : d.WF) {k : Int} (hk : k ≤ 9223372036854775807) : (d.arm k).WF := ⟨hw.nl, hw.lim, hw.len, hw.fits, by show k.toNat < _; omega⟩
theorem St.arm {s : Nat} {A E : Bytes} {d : Dk.Dsk} (h : St s A E d) {k : Int} (hk : k ≤ 9223372036854775807) : St s A E (d.arm k) := ⟨arm_wf h.wf hk, h.down, h.row, h.n8, h.lim, ⟨h.good.dur, h.good.row⟩⟩
/-- A commit on such a disk. -/
theorem St.commit {s : Nat} {A E b : Bytes} {d : Dk.Dsk} (h : St s A E d) {g ph t r l : Int} {K N n : Nat} {ws : List Wt} (hr : pgRight (okM g ph t K r N l n) N ws = true) (hb : b.length = 256) (hN : N ≤ 40) (hs : K % 2 = s) :
    (Done d (ws.length + 4) N (cmP d (okM g ph t K r N l n) N K ws b) ∧ Good (Qe s A b) (cmP d (okM g ph t K r N l n) N K ws b).1)
    ∨ (Fell d N (cmP d (okM g ph t K r N l n) N K ws b) ∧ (Good (Qm s A E) (cmP d (okM g ph t K r N l n) N K ws b).1 ∨ Good (Qm s A b) (cmP d (okM g ph t K r N l n) N K ws b).1)) := by
  obtain ⟨hok, hfit⟩ := right_facts hr
  obtain ⟨N', K', e1, e2, h3, h4, h5, h6⟩ := okM_facts hok
  rw [Int.toNat_natCast] at hfit
  rw [cmP_eq hr (by omega), hs]
  exact cm_go h.wf h.down h.row (by omega) hb (by omega) hfit h.good (.inl h.n8) (by rw [h.lim]; omega)
/-- The first commit, on a disk that has nothing. -/
theorem first_commit {g ph t r l : Int} {K N n : Nat} {ws : List Wt} {b : Bytes} (hr : pgRight (okM g ph t K r N l n) N ws = true) (hb : b.length = 256) (hN : N ≤ 40) :
    Done (Dk.Dsk.load [] 400) (ws.length + 4) N (cmP (Dk.Dsk.load [] 400) (okM g ph t K r N l n) N K ws b) ∧ Good (Qe (K % 2) z256 b) (cmP (Dk.Dsk.load [] 400) (okM g ph t K r N l n) N K ws b).1 := by
  obtain ⟨hok, hfit⟩ := right_facts hr
  obtain ⟨N', K', e1, e2, h3, h4, h5, h6⟩ := okM_facts hok
  rw [cmP_eq hr (by omega)]
  rw [Int.toNat_natCast] at hfit
  have hz := load_zero 400
  rcases cm_go (A := z256) (E := z256) (Dk.Dsk.WF.load [] 400) rfl rfl (Nat.mod_lt K (by decide)) hb (by omega) hfit (good_none (by rw [hz]) rfl) (.inr rfl) (by rw [hz]; show N * 4 ≤ min (400 : Int).toNat 65536; omega) with h7 | h7
  · exact h7
  · have h8 := h7.1.armed
    cases h8
/-- The format, on a disk that has nothing. -/
theorem first_format {g ph t r l : Int} {K N n : Nat} {a b : Bytes} (hr : pgRight (okM g ph t K r N l n) N [] = true) (hK : 2 ≤ K) (ha : a.length = 256) (hb : b.length = 256) (hN : N ≤ 40) :
    Done (Dk.Dsk.load [] 400) 3 N (fmP (Dk.Dsk.load [] 400) (okM g ph t K r N l n) N K [] a b) ∧ Good (Qe (K % 2) a b) (fmP (Dk.Dsk.load [] 400) (okM g ph t K r N l n) N K [] a b).1 := by
  obtain ⟨hok, hfit⟩ := right_facts hr
  obtain ⟨N', K', e1, e2, h3, h4, h5, h6⟩ := okM_facts hok
  have hz := load_zero 400
  have e : fmP (Dk.Dsk.load [] 400) (okM g ph t K r N l n) N K [] a b = wrP (Dk.Dsk.load [] 400) N [[(((1 - K % 2 : Nat) : Int), a), (((K % 2 : Nat) : Int), b)]] := by
    unfold fmP
    rw [if_pos ⟨hr, by omega⟩, sl_pg (by omega), show (K : Int) - 1 = ((K - 1 : Nat) : Int) by omega, sl_pg (by omega), show (K - 1) % 2 = 1 - K % 2 by omega]
    rfl
  rw [e]
  exact fm_go (Dk.Dsk.WF.load [] 400) rfl rfl rfl (Nat.mod_lt K (by decide)) ha hb (by omega) (by rw [hz]; show N * 4 ≤ min (400 : Int).toNat 65536; omega)
theorem Done.st {d : Dk.Dsk} {k N s : Nat} {r : Dk.Dsk × Int} {A b : Bytes} (h : Done d k N r) (hl : d.limit = 400) (hN : 2 ≤ N) (hs : s < 2) (hg : Good (Qe s A b) r.1) : St (1 - s) b A r.1 := ⟨h.wf, h.down, h.row, by rw [h.n]; omega, h.limit.trans hl, hg.imp (Qe.turn hs)⟩
theorem load_whole {xs : Bytes} {n : Nat} (h : xs.length = n * 64) (hn : n ≤ 400) : Dk.Dsk.load xs 400 = ⟨400, n, xs, [], 0, false, 0, false⟩ := by
  have hc : Dk.cut 400 = 400 := by decide
  have ht : xs.take (400 * 64) = xs := List.take_of_length_le (by omega)
  unfold Dk.Dsk.load Dk.pad
  rw [hc, ht, show (xs.length + 63) / 64 = n by omega, show n * 64 - xs.length = 0 by omega]
  simp
theorem pg_over_same {xs z : Bytes} {P : Nat} (hz : z.length = 256) (h : P * 256 + 256 ≤ xs.length) : ((over xs (P * 256) z).drop (P * 256)).take 256 = z := by
  refine List.ext_getElem? fun i => ?_
  rw [List.getElem?_take]
  by_cases hi : i < 256
  · rw [if_pos hi, List.getElem?_drop, over_at9 _ _ _ _ (by omega), if_pos (by omega)]
    congr 1
    omega
  · rw [if_neg hi, List.getElem?_eq_none (by omega)]
theorem pg_over_other {xs z : Bytes} {P Q : Nat} (hz : z.length = 256) (h : P * 256 + 256 ≤ xs.length) (hq : Q ≠ P) : ((over xs (P * 256) z).drop (Q * 256)).take 256 = (xs.drop (Q * 256)).take 256 := by
  refine List.ext_getElem? fun i => ?_
  rw [List.getElem?_take, List.getElem?_take]
  by_cases hi : i < 256
  · rw [if_pos hi, if_pos hi, List.getElem?_drop, List.getElem?_drop, over_at9 _ _ _ _ (by omega), if_neg (by omega)]
  · rw [if_neg hi, if_neg hi]
theorem z256_none : mdE z256 = 90 := zT_no (k0 := false) (k1 := false) (k2 := false) (k3 := false) (P := z256) z256_len (.inl rfl)
/-- The newest page is lost. -/
theorem nw_lost {d : Dk.Dsk} (hw : d.WF) (h8 : 8 ≤ d.n) (hl : d.limit = 400) {s : Nat} (hs : s < 2) {a : Ml} {E : Bytes} (ha : a.ok) (hka : a.x % 2 = 1 - s) (hg : Good (Qm s a.b E) d) : nwP (Dk.Dsk.load (over d.see (s * 256) z256) 400) = a.at_ (1 - s) := by
  have hse := hw.see
  have hn := hw.nl
  have hlen : (over d.see (s * 256) z256).length = d.n * 64 := (over_length _ _ _ (by rw [z256_len]; omega)).trans hse
  have hld := load_whole hlen (by omega)
  have h1 := pg_other hw h8 hs ha.len hg
  have hwl := Dk.Dsk.WF.load (over d.see (s * 256) z256) 400
  have p1 : pgOf (Dk.Dsk.load (over d.see (s * 256) z256) 400) (1 - s) = a.b := by
    rw [← h1, hld]
    exact pg_over_other z256_len (by omega) (by omega)
  have p2 : pgOf (Dk.Dsk.load (over d.see (s * 256) z256) 400) s = z256 := by
    rw [hld]
    exact pg_over_same z256_len (by omega)
  rw [nwP_eq hwl rfl (by rw [hld]; exact h8)]
  exact ch_one (pg := pgOf (Dk.Dsk.load (over d.see (s * 256) z256) 400)) hs (by rw [p1]; exact ha.mt) hka (by rw [p2]; exact z256_none)
theorem Roomy.wrs : ∀ (l : List Wt) (d : Dk.Dsk) (n : Nat), Roomy d (cost l + n) → Roomy (wrs d l).1 n
  | [], d, n, h => h.le (Nat.le_add_left _ _)
  | x :: r, d, n, h => by
    have hc : cost (x :: r) = x.2.length + 1 + cost r := by unfold cost; rw [List.map_cons, List.sum_cons]
    have h1 : Roomy (d.write (x.1 * 4) x.2).1 (cost r + n) := Roomy.write (by rw [hc, Nat.add_assoc] at h; exact h)
    by_cases h0 : (d.write (x.1 * 4) x.2).2 = 0
    · rw [wrs_ok h0]
      exact Roomy.wrs r _ n h1
    · rw [wrs_bad h0]
      exact h1.le (Nat.le_add_left _ _)
theorem Roomy.rds : ∀ (L : List (List Wt)) (d : Dk.Dsk) (n : Nat), Roomy d (costs L + n) → Roomy (rds d L).1 n
  | [], d, n, h => h.le (Nat.le_add_left _ _)
  | l :: L, d, n, h => by
    have hc : costs (l :: L) = cost l + 1 + costs L := by unfold costs; rw [List.map_cons, List.sum_cons]
    have h1 : Roomy (Go.Proofs.YtopaponemjaenaaDoor.wrs d l).1 (1 + (costs L + n)) := Roomy.wrs l d _ (by rw [hc] at h; exact h.le (by omega))
    unfold Go.Proofs.YtopaponemjaenaaDoor.rds
    split
    · split
      · exact Roomy.rds L _ n (Roomy.sync h1)
      · exact (Roomy.sync h1).le (Nat.le_add_left _ _)
    · exact h1.le (by omega)
theorem Roomy.cm {d : Dk.Dsk} {ok : Bool} {N x : Int} {ws : List Wt} {b : Bytes} {n : Nat} (hb : b.length = 256) (h : Roomy d (cost ws + 1000 + n)) : Roomy (cmP d ok N x ws b).1 n := by
  unfold cmP
  split
  · unfold wrP
    have h1 : ∀ m, Roomy d m → Roomy (d.grow (N * 4)).1 m := fun m h => Roomy.grow h
    have hc : costs [(sl x, z256) :: ws, [(sl x, b)]] = cost ws + 516 := by
      unfold costs cost
      simp only [List.map_cons, List.sum_cons, List.map_nil, List.sum_nil, hb, z256_len]
      omega
    split
    · exact Roomy.rds _ _ n (by rw [hc]; exact (h1 _ h).le (by omega))
    · exact (h1 _ h).le (by omega)
  · exact h.le (by omega)
theorem Roomy.crash {d : Dk.Dsk} {n : Nat} (h : Roomy d n) (keep : List Bool) : Roomy (d.crash keep) n := ⟨h.1, by have := h.2; show (0 : Nat) + n ≤ _; omega⟩
theorem Roomy.arm {d : Dk.Dsk} {n : Nat} (h : Roomy d n) (k : Int) : Roomy (d.arm k) n := ⟨h.1, h.2⟩
theorem roomy_done {d : Dk.Dsk} {k N n : Nat} {r : Dk.Dsk × Int} (h : Done d k N r) (h1 : d.ops + k + n ≤ 4611686018427387903) (h2 : n ≤ 4294967296) : Roomy r.1 n := ⟨by rw [h.ops]; exact h1, by rw [h.row]; show (0 : Nat) + n ≤ _; omega⟩
/-- Two commits that may go down, and what survives. -/
theorem again_go {o f nx om : Ml} {K N N' : Nat} {ws vs : List Wt} {kl kl2 : List Bool} {fz hz : Int} {d0 d1 d3 : Dk.Dsk} {e0 e1 e2 : Int} (hfz : fz ≤ 9223372036854775807) (hhz : hz ≤ 9223372036854775807)
    (hox : o.x = K) (hfx : f.x = K + 1) (hnx : nx.x = K + 1) (hmx : om.x = K - 1) (hK : 2 ≤ K) (hN : N ≤ 40) (hN' : N' ≤ 40) (hoo : o.ok) (hfo : f.ok) (hno : nx.ok) (hmo : om.ok)
    {g ph t r l : Int} {n : Nat} (hr0 : pgRight (okM g ph t K r N l n) N [] = true) (q0 : fmP (Dk.Dsk.load [] 400) (okM g ph t K r N l n) N K [] om.b o.b = (d0, e0))
    {g' ph' t' r' l' : Int} {n' : Nat} (hr1 : pgRight (okM g' ph' t' (K + 1 : Nat) r' N' l' n') N' ws = true) (q1 : cmP (d0.arm fz) (okM g' ph' t' (K + 1 : Nat) r' N' l' n') N' (K + 1 : Nat) ws f.b = (d1, e1))
    (hr2 : pgRight (okM g ph t (K + 1 : Nat) r N l n) N vs = true) (q2 : cmP ((d1.crash kl).arm hz) (okM g ph t (K + 1 : Nat) r N l n) N (K + 1 : Nat) vs nx.b = (d3, e2)) :
    e0 = 0 ∧ Done (Dk.Dsk.load [] 400) 3 N (d0, 0) ∧ (e1 = 0 ∨ (e1 = 10 ∧ ((e2 = 0 ∧ nwP (d3.crash kl2) = nx.at_ ((K + 1) % 2)) ∨ (e2 = 10 ∧ (nwP (d3.crash kl2) = o.at_ (1 - (K + 1) % 2) ∨ nwP (d3.crash kl2) = f.at_ ((K + 1) % 2) ∨ nwP (d3.crash kl2) = nx.at_ ((K + 1) % 2)))))) := by
  obtain ⟨hdn, hgd⟩ := first_format hr0 hK hmo.len hoo.len hN
  rw [q0] at hdn hgd
  obtain rfl : e0 = 0 := hdn.err
  have hN3 : 3 ≤ N := by
    obtain ⟨N2, K2, a1, a2, a3, _⟩ := okM_facts (right_facts hr0).1
    omega
  have hl4 : (Dk.Dsk.load [] 400).limit = 400 := by rw [load_zero]; decide
  have hst := (hdn.st hl4 (by omega) (Nat.mod_lt _ (by decide)) hgd).arm hfz
  obtain ⟨s, hs⟩ : ∃ z, z = (K + 1) % 2 := ⟨_, rfl⟩
  have hs2 : s < 2 := by omega
  rw [show 1 - K % 2 = s by omega] at hst
  have hc := hst.commit hr1 hfo.len hN' hs.symm
  rw [q1] at hc
  rw [← hs]
  refine ⟨rfl, hdn, ?_⟩
  rcases hc with h | ⟨hfe, hgm⟩
  · exact .inl h.1.err
  right
  refine ⟨hfe.err, ?_⟩
  have h8 : 8 ≤ d1.n := by have h9 : d1.n = max (d0.arm fz).n (N' * 4) := hfe.n; have h10 : 8 ≤ (d0.arm fz).n := hst.n8; omega
  have hlim : d1.limit = 400 := (show d1.limit = (d0.arm fz).limit from hfe.limit).trans hst.lim
  have key : ∀ e : Ml, e.ok → e.x % 2 = s → (e.at_ s = f.at_ s ∨ e.x < o.x) → St s o.b e.b ((d1.crash kl).arm hz) → ((e2 = 0 ∧ nwP (d3.crash kl2) = nx.at_ s) ∨ (e2 = 10 ∧ (nwP (d3.crash kl2) = o.at_ (1 - s) ∨ nwP (d3.crash kl2) = f.at_ s ∨ nwP (d3.crash kl2) = nx.at_ s))) := fun e he hes hee hsa => by
    have hc2 := hsa.commit hr2 hno.len hN hs.symm
    rw [q2] at hc2
    rcases hc2 with ⟨hd2, hg2⟩ | ⟨hf2, hg2⟩
    · left
      have hn8 : 8 ≤ d3.n := by have h9 : d3.n = max ((d1.crash kl).arm hz).n (N * 4) := hd2.n; have h10 := hsa.n8; omega
      exact ⟨hd2.err, nw_exact (crash_wf hd2.wf kl2) rfl hn8 hs2 hoo hno (by omega) (by omega) (hg2.crash hd2.wf kl2) (by omega)⟩
    · right
      have hn8 : 8 ≤ d3.n := by have h9 : d3.n = max ((d1.crash kl).arm hz).n (N * 4) := hf2.n; have h10 := hsa.n8; omega
      refine ⟨hf2.err, ?_⟩
      rcases hg2 with hg2 | hg2
      · rcases nw_mix (crash_wf hf2.wf kl2) rfl hn8 hs2 hoo he (by omega) hes (hg2.crash hf2.wf kl2) with h | ⟨h, hlt⟩
        · exact .inl h
        · rcases hee with h2 | h2
          · rw [h2] at h
            exact .inr (.inl h)
          · omega
      · rcases nw_mix (crash_wf hf2.wf kl2) rfl hn8 hs2 hoo hno (by omega) (by omega) (hg2.crash hf2.wf kl2) with h | ⟨h, hlt⟩
        · exact .inl h
        · exact .inr (.inr h)
  rcases hgm with hgm | hgm
  · exact key om hmo (by omega) (.inr (by omega)) ((St.of_crash hfe.wf h8 hlim hgm kl).arm hhz)
  · exact key f hfo (by omega) (.inl rfl) ((St.of_crash hfe.wf h8 hlim hgm kl).arm hhz)
end Go.Proofs.YtopaponemjaenaaDoor
