/-
  RunAdds: the walk.
-/
import Derived.Test.YtjnaejogclmooaaRbck
import Derived.RegionTactic
import Derived.ChangeAlike
set_option linter.unusedVariables false
namespace Go.Proofs.Ytjnaejogclmooaa
open Go.RowKit

/-- A slice of m yes and no at the head of a block. -/
def BRow (w : World) (g : Nat) (f : Nat → Bool) (m : Nat) (rest : List Value) : Prop := Blk w g 4 (bf f m ++ rest)
theorem BRow.later {w w' : World} {g : Nat} {f : Nat → Bool} {m : Nat} {rest : List Value} (h : BRow w g f m rest) (ho : Only (w.heap.size ≤ ·) w w') : BRow w' g f m rest := Blk.later h ho
theorem BRow.congr {w : World} {g : Nat} {f f' : Nat → Bool} {m : Nat} {rest : List Value} (h : BRow w g f m rest) (e : ∀ q, q < m → f q = f' q) : BRow w g f' m rest := by
  unfold BRow at h ⊢; rwa [← bf_congr e]
theorem BRow.cell {w : World} {g : Nat} {f : Nat → Bool} {m q : Nat} {rest : List Value} (h : BRow w g f m rest) (hq : q < m) : w.cell? ⟨g, q, none⟩ = some (.bool (f q)) := by
  rw [Blk.cell h, List.getElem?_append_left (by rw [bf_length]; exact hq), bf_get f hq]
theorem BRow.set_ {w : World} {g : Nat} {f f' : Nat → Bool} {m p : Nat} {b : Bool} {rest : List Value} (h : BRow w g f m rest) (hp : p < m) (e : ∀ q, q < m → f' q = if q = p then b else f q) : BRow (w.setCell ⟨g, p, none⟩ (.bool b)) g f' m rest := by
  have := Blk.set_ h p (.bool b)
  rwa [List.set_append_left _ _ (by rw [bf_length]; exact hp), bf_set e] at this
/-- An appended row of yes and no, in its block. -/
theorem bown {w : World} {B : Nat} {v : Value} {f : Nat → Bool} {m : Nat} (hm : 0 < m) (h : w.ownsRow B 4 1 v m (bf f m)) : ∃ g c rest, v = .slice (some ⟨g, 0, none⟩) m c ∧ B ≤ g ∧ BRow w g f m rest := by
  rcases h.2 with ⟨_, hz⟩ | ⟨g, cap, cur, e, hb, hg, hc, hm', hs, ht⟩
  · omega
  · refine ⟨g, cap, cur.toList.drop m, e, hb, ?_⟩
    unfold BRow Blk
    have : bf f m = cur.toList.take m := by simpa using ht.symm
    rw [this, List.take_append_drop]
    exact hg
theorem Runs_m (W : World) (g c : Nat) (f : Nat → Bool) (m : Nat) (rest : List Value) (h : BRow W g f m rest) (hm : m ≤ 32768) : Calls Try.prog 23 #[.slice (some ⟨g, 0, none⟩) m c] W (Gives W (runsOf f m)) :=
  (Runs_c W g c m f rest h hm).mono fun e w' ⟨v, e1, h, ho⟩ => ⟨⟨v, e1, h.row⟩, ho⟩
theorem Add_b (W : World) (v : Value) (l u0 : List R) (x : R) (b : Bool) (h : Row W v l) (hr : ∀ y ∈ l, I64 y) (hx : I64 x) (hb : b = true ↔ may x = true ∧ ∀ p, Mem l p → ¬ within x p) (hu : ∀ u, IsRow u (fun p => Mem l p ∨ (b = true ∧ within x p)) → u = u0) :
    Calls Try.prog 25 #[v, .agg #[.int .i64 x.1, .int .i64 x.2]] W fun e w' => (∃ v, e = .returned (.tuple #[v, .bool b]) ∧ Row w' v u0) ∧ Only (W.heap.size ≤ ·) W w' :=
  (Add_c W v l x h hr hx).mono fun e w' ⟨v, n, u, b', h1, h2, h3, h4, h5⟩ => by
    obtain rfl : b' = b := by rw [Bool.eq_iff_iff, h3, hb]
    exact ⟨⟨v, h1, by rw [← hu u h4]; exact h2.row⟩, h5⟩
theorem Drop_b (W : World) (v : Value) (l u0 : List R) (x : R) (b : Bool) (h : Row W v l) (hr : ∀ y ∈ l, I64 y) (hx : I64 x) (hb : b = true ↔ may x = true ∧ ∀ p, within x p → Mem l p) (hu : ∀ u, IsRow u (fun p => Mem l p ∧ ¬ (b = true ∧ within x p)) → u = u0) :
    Calls Try.prog 26 #[v, .agg #[.int .i64 x.1, .int .i64 x.2]] W fun e w' => (∃ v, e = .returned (.tuple #[v, .bool b]) ∧ Row w' v u0) ∧ Only (W.heap.size ≤ ·) W w' :=
  (Drop_c W v l x h hr hx).mono fun e w' ⟨v, n, u, b', h1, h2, h3, h4, h5⟩ => by
    obtain rfl : b' = b := by
      rw [Bool.eq_iff_iff, h3, hb]
      exact ⟨fun ⟨a, c⟩ => ⟨a, (all_whole (known_right l) a).2 c⟩, fun ⟨a, c⟩ => ⟨a, (all_whole (known_right l) a).1 c⟩⟩
    exact ⟨⟨v, h1, by rw [← hu u h4]; exact h2.row⟩, h5⟩

theorem bf_one (f : Nat → Bool) (m : Nat) : ∀ u ∈ bf f m, u.oneCell' = true := by
  intro u hu
  obtain ⟨x, _, rfl⟩ := List.mem_map.1 hu
  rfl
theorem own_litB (W : World) : (W.alloc (.cells #[] 4)).ownsRow W.heap.size 4 1 (.slice (some ⟨W.heap.size, 0, none⟩) 0 0) 0 [] := by
  have := World.ownsRow_lit (base := W.heap.size) (e := 4) (size := 1) W #[] 0 (Nat.le_refl _) (by decide) rfl
  simpa using this
theorem grown_new {W w' : World} {t : TypeId} (hg : (W.alloc (.cells #[] t)).grownBy w' (Value.slice (some ⟨W.heap.size, 0, none⟩) 0 0).ownBlock) : Only (W.heap.size ≤ ·) W w' :=
  ((Only.refl _ W).alloc (fun _ h => h) _).grown hg (fun _ h => h) (fun g hg => by cases hg; exact Nat.le_refl _)
def anyB (l : List R) (a k : Nat) : Bool := (List.range k).any fun j => setOf l (a + j)
def allB (l : List R) (a k : Nat) : Bool := (List.range k).all fun j => setOf l (a + j)
def plusF (l : List R) (a k : Nat) : Nat → Bool := fun q => setOf l q || decide (a ≤ q ∧ q < a + k)
def lessF (l : List R) (a k : Nat) : Nat → Bool := fun q => setOf l q && !decide (a ≤ q ∧ q < a + k)
theorem anyB_succ (l : List R) (a k : Nat) : anyB l a (k + 1) = (anyB l a k || setOf l (a + k)) := by simp [anyB, List.range_succ]
theorem allB_succ (l : List R) (a k : Nat) : allB l a (k + 1) = (allB l a k && setOf l (a + k)) := by simp [allB, List.range_succ]
theorem plus_zero (l : List R) (a q : Nat) : setOf l q = plusF l a 0 q := by
  unfold plusF; rw [decide_eq_false (by omega), Bool.or_false]
theorem less_zero (l : List R) (a q : Nat) : setOf l q = lessF l a 0 q := by
  unfold lessF; rw [decide_eq_false (by omega)]; simp
theorem plus_succ (l : List R) (a k q : Nat) : plusF l a (k + 1) q = if q = a + k then true else plusF l a k q := by
  unfold plusF
  by_cases e : q = a + k
  · rw [if_pos e, decide_eq_true (by omega), Bool.or_true]
  · rw [if_neg e]; congr 1; exact decide_eq_decide.2 (by omega)
theorem less_succ (l : List R) (a k q : Nat) : lessF l a (k + 1) q = if q = a + k then false else lessF l a k q := by
  unfold lessF
  by_cases e : q = a + k
  · rw [if_pos e, decide_eq_true (by omega)]; simp
  · rw [if_neg e]; congr 2; exact decide_eq_decide.2 (by omega)
theorem any_iff {l : List R} {a m : Nat} : anyB l a m = true ↔ ∃ p, Mem l p ∧ within ((a : Int), (m : Int)) p := by
  unfold anyB within
  rw [List.any_eq_true]
  constructor
  · rintro ⟨j, hj, h⟩
    rw [List.mem_range] at hj
    exact ⟨((a + j : Nat) : Int), h, by simp only; omega⟩
  · rintro ⟨p, h, h1⟩
    simp only at h1
    refine ⟨(p - a).toNat, by rw [List.mem_range]; omega, ?_⟩
    rw [setOf_iff]
    rwa [show ((a + (p - a).toNat : Nat) : Int) = p by omega]
theorem all_iff {l : List R} {a m : Nat} : allB l a m = true ↔ ∀ p, within ((a : Int), (m : Int)) p → Mem l p := by
  unfold allB within
  rw [List.all_eq_true]
  constructor
  · intro h p hp
    simp only at hp
    have := h (p - a).toNat (by rw [List.mem_range]; omega)
    rw [setOf_iff] at this
    rwa [show ((a + (p - a).toNat : Nat) : Int) = p by omega] at this
  · intro h j hj
    rw [List.mem_range] at hj
    exact h _ (by simp only; omega)
/-- What the two calls leave, as the document's rows have it. -/
theorem plus_runs {l : List R} {a m : Nat} {b : Bool} (hs : short l = true) (hm : a + m ≤ 600) (u : List R) (hu : IsRow u (fun p => Mem l p ∨ (b = true ∧ within ((a : Int), (m : Int)) p))) : u = runsOf (if b = true then plusF l a m else setOf l) 600 := by
  refine runs_eq (fun q hq => ?_) (fun p hp => ?_) hu
  · cases b
    · simp [setOf_iff]
    · show (setOf l q || decide (a ≤ q ∧ q < a + m)) = true ↔ _
      rw [Bool.or_eq_true, setOf_iff, decide_eq_true_iff]
      unfold within
      exact or_congr Iff.rfl ⟨fun h => ⟨rfl, by simp only; omega⟩, fun ⟨_, h⟩ => by simp only at h; omega⟩
  · rcases hp with hp | ⟨_, hp⟩
    · exact mem_range hs hp
    · unfold within at hp; simp only at hp; omega
theorem less_runs {l : List R} {a m : Nat} {b : Bool} (hs : short l = true) (u : List R) (hu : IsRow u (fun p => Mem l p ∧ ¬ (b = true ∧ within ((a : Int), (m : Int)) p))) : u = runsOf (if b = true then lessF l a m else setOf l) 600 := by
  refine runs_eq (fun q hq => ?_) (fun p hp => mem_range hs hp.1) hu
  cases b
  · simp [setOf_iff]
  · show (setOf l q && !decide (a ≤ q ∧ q < a + m)) = true ↔ _
    rw [Bool.and_eq_true, setOf_iff, Bool.not_eq_true', decide_eq_false_iff_not]
    unfold within
    exact and_congr Iff.rfl ⟨fun h hh => h (by simp only at hh; omega), fun h hh => h ⟨rfl, by simp only; omega⟩⟩
theorem add_cond {l : List R} {a m : Nat} (h : may ((a : Int), (m : Int)) = true) : (!anyB l a m) = true ↔ may ((a : Int), (m : Int)) = true ∧ ∀ p, Mem l p → ¬ within ((a : Int), (m : Int)) p := by
  rw [Bool.not_eq_true', ← Bool.not_eq_true, any_iff]
  exact ⟨fun hn => ⟨h, fun p h1 h2 => hn ⟨p, h1, h2⟩⟩, fun hh ⟨p, h1, h2⟩ => hh.2 p h1 h2⟩
theorem drop_cond {l : List R} {a m : Nat} (h : may ((a : Int), (m : Int)) = true) : allB l a m = true ↔ may ((a : Int), (m : Int)) = true ∧ ∀ p, within ((a : Int), (m : Int)) p → Mem l p := by
  rw [all_iff]
  exact ⟨fun hh => ⟨h, hh⟩, fun hh => hh.2⟩

set_option maxRecDepth 100000 in
set_option maxHeartbeats 12800000 in
theorem adds_walk (w : World) (v : Value) (l : List R) (x : R) (h : Row w v l) (hr : ∀ y ∈ l, I64 y) (hx : I64 x) :
    Calls Try.prog 4 #[v, .agg #[.int .i64 x.1, .int .i64 x.2]] w (Told w (.bool true)) := by
  obtain ⟨iB, hi0, hz0, hz1, hz2⟩ := info_parts infoB
  have HI := Lib.hid (And.intro hi0 (And.intro hz0 (And.intro hz1 hz2)))
  obtain ⟨bx, hbx⟩ : ∃ bx, bx = w.heap.size := ⟨_, rfl⟩
  obtain ⟨wx, hwx⟩ : ∃ wx, wx = w.alloc (.cells #[.int .i64 x.1, .int .i64 x.2] 40) := ⟨_, rfl⟩
  have HC : Hid (Blk wx bx 40 [.int .i64 x.1, .int .i64 x.2]) := by rw [hwx, hbx]; exact Blk.new w _ _
  have HO : Hid (Only (w.heap.size ≤ ·) w wx) := by rw [hwx]; exact (Only.refl _ w).alloc (fun _ h => h) _
  have HWX : Hid (wx = w.alloc (.cells #[.int .i64 x.1, .int .i64 x.2] 40) ∧ bx = w.heap.size) := ⟨hwx, hbx⟩
  have HA : Hid (Row wx v l) := h.later HO.out
  have HA0 := Lib.hid h
  have HAi := Lib.hid hr
  obtain ⟨sa, hsa⟩ : ∃ s, s = short l := ⟨_, rfl⟩
  obtain ⟨mx, hmx⟩ : ∃ m, m = may x := ⟨_, rfl⟩
  have HSA := Lib.hid hsa
  have HMX := Lib.hid hmx
  have HXI := Lib.hid hx
  have HMC : Hid (∀ W : World, Calls Try.prog 24 #[.agg #[.int .i64 x.1, .int .i64 x.2]] W (Told W (.bool mx))) := fun W => by rw [hmx]; exact May_c W x.1 x.2
  clear h hr hx hwx hbx hsa hmx hi0 hz0 hz1 hz2
  obtain ⟨x1, x2⟩ := x
  simp only at HC HWX HMC
  have hq1 := HC.out.cell 0
  have hq2 := HC.out.cell 1
  simp at hq1 hq2
  cases sa
  · go_enter Try.func4, Try.ntmps4
    go_wp2_with (fail)
    rw [← HWX.out.1, ← HWX.out.2]
    go_wp2_with (first
      | (go_at_call 10; (with_reducible refine (few_b _ _ _ _ HA.out HSA.out).mono ?_); rintro e w1 ⟨rfl, ho⟩; (try replace HA := Lib.hid (HA.out.later ho)); (try replace HC := Lib.hid (HC.out.later ho)); (try (have hq1 := HC.out.cell 0; have hq2 := HC.out.cell 1; simp at hq1 hq2)); replace HO := Lib.hid (on_new HO.out ho); clear ho)
      | (go_at_call 11; (with_reducible refine (alive_c _).mono ?_); rintro e w2 ⟨rfl, ho⟩; (try replace HA := Lib.hid (HA.out.later ho)); (try replace HC := Lib.hid (HC.out.later ho)); (try (have hq1 := HC.out.cell 0; have hq2 := HC.out.cell 1; simp at hq1 hq2)); replace HO := Lib.hid (on_new HO.out ho); clear ho))
    go_ret
    exact ⟨rfl, HO.out⟩
  have HFL : Hid (∀ f, (runsOf f 600).length ≤ 1000000) := fun f => row_len (runsOf_row f 600 (by decide))
  have HAlen : Hid (l.length ≤ 1000000) := Nat.le_trans (short_iff HSA.out.symm).1 (by decide)
  by_cases hbig : mx = true ∧ 600 < x1 + x2
  · obtain ⟨rfl, hbig⟩ := hbig
    have hmm := (may_iff (x1, x2)).1 HMX.out.symm
    simp only at hmm
    go_enter Try.func4, Try.ntmps4
    go_wp2_with (fail)
    rw [← HWX.out.1, ← HWX.out.2]
    go_wp2_with (first
      | (go_at_call 10; (with_reducible refine (few_b _ _ _ _ HA.out HSA.out).mono ?_); rintro e w1 ⟨rfl, ho⟩; (try replace HA := Lib.hid (HA.out.later ho)); (try replace HC := Lib.hid (HC.out.later ho)); (try (have hq1 := HC.out.cell 0; have hq2 := HC.out.cell 1; simp at hq1 hq2)); replace HO := Lib.hid (on_new HO.out ho); clear ho)
      | (go_at_call 24; (with_reducible refine (HMC.out _).mono ?_); rintro e w2 ⟨rfl, ho⟩; (try replace HA := Lib.hid (HA.out.later ho)); (try replace HC := Lib.hid (HC.out.later ho)); (try (have hq1 := HC.out.cell 0; have hq2 := HC.out.cell 1; simp at hq1 hq2)); replace HO := Lib.hid (on_new HO.out ho); clear ho)
      | (go_at_call 11; (with_reducible refine (alive_c _).mono ?_); rintro e w3 ⟨rfl, ho⟩; (try replace HA := Lib.hid (HA.out.later ho)); (try replace HC := Lib.hid (HC.out.later ho)); (try (have hq1 := HC.out.cell 0; have hq2 := HC.out.cell 1; simp at hq1 hq2)); replace HO := Lib.hid (on_new HO.out ho); clear ho))
    go_ret
    exact ⟨rfl, HO.out⟩
  · obtain ⟨a, m, hma, hmf, h600⟩ : ∃ a m : Nat, (mx = true → x1 = a ∧ x2 = m ∧ 0 < m) ∧ (mx = false → m = 0) ∧ a + m ≤ 600 := by
      cases hm : mx with
      | false => exact ⟨0, 0, fun h => (by cases h), fun _ => rfl, by omega⟩
      | true =>
        have hmm := (may_iff (x1, x2)).1 (HMX.out.symm.trans hm)
        have hnb : ¬ 600 < x1 + x2 := fun hh => hbig ⟨hm, hh⟩
        simp only at hmm
        exact ⟨x1.toNat, x2.toNat, fun _ => by omega, fun h => (by cases h), by omega⟩
    cases mx
    · obtain rfl : m = 0 := hmf rfl
      clear hma hmf
      go_enter Try.func4, Try.ntmps4
      go_wp2_with (fail)
      rw [← HWX.out.1, ← HWX.out.2]
      go_wp2_with (first
        | (go_at_call 10; (with_reducible refine (few_b _ _ _ _ HA.out HSA.out).mono ?_); rintro e w1 ⟨rfl, ho⟩; (try replace HA := Lib.hid (HA.out.later ho)); (try replace HC := Lib.hid (HC.out.later ho)); (try replace HS := Lib.hid (HS.out.later ho)); (try (have hq1 := HC.out.cell 0; have hq2 := HC.out.cell 1; simp at hq1 hq2)); replace HO := Lib.hid (on_new HO.out ho); clear ho)
        | (go_at_call 24; (with_reducible refine (HMC.out _).mono ?_); rintro e w2 ⟨rfl, ho⟩; (try replace HA := Lib.hid (HA.out.later ho)); (try replace HC := Lib.hid (HC.out.later ho)); (try replace HS := Lib.hid (HS.out.later ho)); (try (have hq1 := HC.out.cell 0; have hq2 := HC.out.cell 1; simp at hq1 hq2)); replace HO := Lib.hid (on_new HO.out ho); clear ho)
        | (go_at_call 12; (with_reducible refine (Set_v _ _ _ HA.out HAi.out).mono ?_); rintro e ws ⟨gs, rfl, hg, h, ho⟩; (try replace HA := Lib.hid (HA.out.later ho)); (try replace HC := Lib.hid (HC.out.later ho)); (try replace HS := Lib.hid (HS.out.later ho)); (try (have hq1 := HC.out.cell 0; have hq2 := HC.out.cell 1; simp at hq1 hq2)); have HS := Lib.hid h; have HSg := Lib.hid (Nat.le_trans HO.out.size hg); have HSlt := Lib.hid (And.intro hg h.lt); clear hg; clear h; replace HO := Lib.hid (on_new HO.out ho); clear ho)
        | (at_builtin; refine wpList_append_src _ rfl (.tmp 34) (.tmp 35) 26 rfl ws.heap.size 4 iB zB 1 1 Try.underlying26 HI.out.1 HI.out.2.1 HI.out.2.2.1 HI.out.2.2.2 (by rfl) (by omega) _ 0 [] rfl (own_litB ws) (some ⟨gs, 0, none⟩) 600 600 (bf (setOf l) 600) rfl (fun e => by cases e) (by rw [bf_length]) (fun ad e j u hu => by cases e; rw [Addr.add_lit, Nat.zero_add, (HS.out.later ((Only.refl _ ws).alloc (fun _ h => h) (.cells #[] 4))).cell]; exact hu) (bf_one _ _) (by simp only [maxLen]; omega) (by omega) (by simp) ?_; intro vw ww hw hg; have hq := bown (m := 600) (f := setOf l) (by decide) (by simpa using hw); obtain ⟨gw, cw, rw', rfl, hgw, hrw⟩ := hq; have ho := grown_new hg; have HNE1 := Lib.hid (And.intro HC.out.lt (And.intro HS.out.lt hgw)); have HW := Lib.hid hrw; replace HA := Lib.hid (HA.out.later ho); replace HC := Lib.hid (HC.out.later ho); replace HS := Lib.hid (HS.out.later ho); replace HO := Lib.hid (on_new HO.out ho); have hq1 := HC.out.cell 0; have hq2 := HC.out.cell 1; simp at hq1 hq2; clear hw hg ho hrw hgw)
        | (at_builtin; refine wpList_append_src _ rfl (.tmp 37) (.tmp 38) 26 rfl ww.heap.size 4 iB zB 1 1 Try.underlying26 HI.out.1 HI.out.2.1 HI.out.2.2.1 HI.out.2.2.2 (by rfl) (by omega) _ 0 [] rfl (own_litB ww) (some ⟨gs, 0, none⟩) 600 600 (bf (setOf l) 600) rfl (fun e => by cases e) (by rw [bf_length]) (fun ad e j u hu => by cases e; rw [Addr.add_lit, Nat.zero_add, (HS.out.later ((Only.refl _ ww).alloc (fun _ h => h) (.cells #[] 4))).cell]; exact hu) (bf_one _ _) (by simp only [maxLen]; omega) (by omega) (by simp) ?_; intro vz wz hw hg; have hq := bown (m := 600) (f := setOf l) (by decide) (by simpa using hw); obtain ⟨gz, cz, rz, rfl, hgw, hrw⟩ := hq; have ho := grown_new hg; have HNE2 := Lib.hid (And.intro (Blk.lt HW.out) hgw); have HZ := Lib.hid hrw; replace HA := Lib.hid (HA.out.later ho); replace HC := Lib.hid (HC.out.later ho); replace HS := Lib.hid (HS.out.later ho); replace HW := Lib.hid (HW.out.later ho); replace HO := Lib.hid (on_new HO.out ho); have hq1 := HC.out.cell 0; have hq2 := HC.out.cell 1; simp at hq1 hq2; clear hw hg ho hrw hgw))
      have HNE : Hid (bx ≠ gw ∧ bx ≠ gz ∧ gs ≠ gw ∧ gs ≠ gz ∧ gw ≠ gz ∧ w.heap.size ≤ gw ∧ w.heap.size ≤ gz) := by
        have h1 := HNE1.out
        have h2 := HNE2.out
        have h3 := HSg.out
        exact Lib.hid (by omega)
      have HP : Hid (BRow wz gw (plusF l a 0) 600 rw') := HW.out.congr fun q _ => plus_zero l a q
      have HL : Hid (BRow wz gz (lessF l a 0) 600 rz) := HZ.out.congr fun q _ => less_zero l a q
      clear HW HZ HNE1 HNE2 HSlt hq1 hq2
      go_loopw [6, 7, 10] (fun s t i wr => ∃ k : Nat, k ≤ 0 ∧ s = .bool (anyB l a k) ∧ t = .bool (allB l a k) ∧ i = .int .i64 k ∧ Hid (Blk wr bx 40 [.int .i64 x1, .int .i64 x2]) ∧ Hid (Blk wr gs 4 (bf (setOf l) 600)) ∧ Hid (BRow wr gw (plusF l a k) 600 rw') ∧ Hid (BRow wr gz (lessF l a k) 600 rz) ∧ Only (w.heap.size ≤ ·) w wr) (fun _ _ i _ => 1 - (intOf i).toNat)
      case atStart => exact ⟨0, Nat.zero_le _, rfl, rfl, rfl, HC, HS, HP, HL, HO.out⟩
      case round =>
        obtain ⟨k, hk, rfl, rfl, rfl, HC, HS, HP, HL, ho⟩ := hrel
        have HQ := Lib.hid ho
        clear ho
        obtain ⟨sm, hsm⟩ : ∃ b, b = anyB l a k := ⟨_, rfl⟩
        obtain ⟨al, hal⟩ : ∃ b, b = allB l a k := ⟨_, rfl⟩
        rw [← hsm, ← hal]
        have HSM := Lib.hid hsm
        have HAL := Lib.hid hal
        clear hsm hal
        obtain rfl : k = 0 := by omega
        have HAD : Hid (∀ W v, Row W v l → Calls Try.prog 25 #[v, .agg #[.int .i64 x1, .int .i64 x2]] W fun e w' => (∃ v, e = .returned (.tuple #[v, .bool false]) ∧ Row w' v (runsOf (setOf l) 600)) ∧ Only (W.heap.size ≤ ·) W w') := fun W v hv => Add_b W v l _ (x1, x2) false hv HAi.out HXI.out ⟨fun h => (by cases h), fun h => absurd (HMX.out.trans h.1) (by decide)⟩ (fun u hu => runs_eq (fun q _ => setOf_iff l q) (fun p hp => mem_range HSA.out.symm hp) (hu.congr fun p => ⟨fun h => h.elim id fun h => (by cases h.1), .inl⟩))
        have HDR : Hid (∀ W v, Row W v l → Calls Try.prog 26 #[v, .agg #[.int .i64 x1, .int .i64 x2]] W fun e w' => (∃ v, e = .returned (.tuple #[v, .bool false]) ∧ Row w' v (runsOf (setOf l) 600)) ∧ Only (W.heap.size ≤ ·) W w') := fun W v hv => Drop_b W v l _ (x1, x2) false hv HAi.out HXI.out ⟨fun h => (by cases h), fun h => absurd (HMX.out.trans h.1) (by decide)⟩ (fun u hu => runs_eq (fun q _ => setOf_iff l q) (fun p hp => mem_range HSA.out.symm hp) (hu.congr fun p => ⟨fun h => h.1, fun h => ⟨h, fun hh => (by cases hh.1)⟩⟩))
        replace HA := Lib.hid (HA0.out.later HQ.out)
        replace HO := Lib.hid HQ.out
        have hq1 := HC.out.cell 0
        have hq2 := HC.out.cell 1
        simp at hq1 hq2
        clear HSM HAL
        go_wp2_with (first
          | (go_at_call 24; (with_reducible refine (HMC.out _).mono ?_); rintro e w20 ⟨rfl, ho⟩; (try replace HA := Lib.hid (HA.out.later ho)); (try replace HC := Lib.hid (HC.out.later ho)); (try replace HS := Lib.hid (HS.out.later ho)); (try replace HP := Lib.hid (HP.out.later ho)); (try replace HL := Lib.hid (HL.out.later ho)); (try replace HX := Lib.hid (HX.out.later ho)); (try replace HY := Lib.hid (HY.out.later ho)); (try replace HZ := Lib.hid (HZ.out.later ho)); (try replace HG := Lib.hid (HG.out.later ho)); (try replace HU := Lib.hid (HU.out.later ho)); (try replace HV := Lib.hid (HV.out.later ho)); (try replace HB := Lib.hid (HB.out.later ho)); (try replace HD := Lib.hid (HD.out.later ho)); (try replace HE := Lib.hid (HE.out.later ho)); (try (have hq1 := HC.out.cell 0; have hq2 := HC.out.cell 1; simp at hq1 hq2)); replace HO := Lib.hid (on_new HO.out ho); clear ho)
          | (go_at_call 14; (with_reducible refine (of_v _ _ _ HA.out (by first | exact HAlen.out | decide)).mono ?_); rintro e wx ⟨⟨vx, rfl, h⟩, ho⟩; (try replace HA := Lib.hid (HA.out.later ho)); (try replace HC := Lib.hid (HC.out.later ho)); (try replace HS := Lib.hid (HS.out.later ho)); (try replace HP := Lib.hid (HP.out.later ho)); (try replace HL := Lib.hid (HL.out.later ho)); (try replace HX := Lib.hid (HX.out.later ho)); (try replace HY := Lib.hid (HY.out.later ho)); (try replace HZ := Lib.hid (HZ.out.later ho)); (try replace HG := Lib.hid (HG.out.later ho)); (try replace HU := Lib.hid (HU.out.later ho)); (try replace HV := Lib.hid (HV.out.later ho)); (try replace HB := Lib.hid (HB.out.later ho)); (try replace HD := Lib.hid (HD.out.later ho)); (try replace HE := Lib.hid (HE.out.later ho)); (try (have hq1 := HC.out.cell 0; have hq2 := HC.out.cell 1; simp at hq1 hq2)); have HX := Lib.hid h; (try have HXlen := Lib.hid HAlen.out); (try have HXi := Lib.hid HAi.out); clear h; replace HO := Lib.hid (on_new HO.out ho); clear ho)
          | (go_at_call 25; (with_reducible refine (HAD.out _ _ HX.out).mono ?_); rintro e wy ⟨⟨vy, rfl, h⟩, ho⟩; (try replace HA := Lib.hid (HA.out.later ho)); (try replace HC := Lib.hid (HC.out.later ho)); (try replace HS := Lib.hid (HS.out.later ho)); (try replace HP := Lib.hid (HP.out.later ho)); (try replace HL := Lib.hid (HL.out.later ho)); (try replace HX := Lib.hid (HX.out.later ho)); (try replace HY := Lib.hid (HY.out.later ho)); (try replace HZ := Lib.hid (HZ.out.later ho)); (try replace HG := Lib.hid (HG.out.later ho)); (try replace HU := Lib.hid (HU.out.later ho)); (try replace HV := Lib.hid (HV.out.later ho)); (try replace HB := Lib.hid (HB.out.later ho)); (try replace HD := Lib.hid (HD.out.later ho)); (try replace HE := Lib.hid (HE.out.later ho)); (try (have hq1 := HC.out.cell 0; have hq2 := HC.out.cell 1; simp at hq1 hq2)); have HY := Lib.hid h; clear h; replace HO := Lib.hid (on_new HO.out ho); clear ho)
          | (go_at_call 26; (with_reducible refine (HDR.out _ _ HX.out).mono ?_); rintro e wz ⟨⟨vz, rfl, h⟩, ho⟩; (try replace HA := Lib.hid (HA.out.later ho)); (try replace HC := Lib.hid (HC.out.later ho)); (try replace HS := Lib.hid (HS.out.later ho)); (try replace HP := Lib.hid (HP.out.later ho)); (try replace HL := Lib.hid (HL.out.later ho)); (try replace HX := Lib.hid (HX.out.later ho)); (try replace HY := Lib.hid (HY.out.later ho)); (try replace HZ := Lib.hid (HZ.out.later ho)); (try replace HG := Lib.hid (HG.out.later ho)); (try replace HU := Lib.hid (HU.out.later ho)); (try replace HV := Lib.hid (HV.out.later ho)); (try replace HB := Lib.hid (HB.out.later ho)); (try replace HD := Lib.hid (HD.out.later ho)); (try replace HE := Lib.hid (HE.out.later ho)); (try (have hq1 := HC.out.cell 0; have hq2 := HC.out.cell 1; simp at hq1 hq2)); have HZ := Lib.hid h; clear h; replace HO := Lib.hid (on_new HO.out ho); clear ho)
          | (go_at_call 21; (with_reducible refine (old_v _ _ _ HX.out (by first | exact HXlen.out | decide)).mono ?_); rintro e wg ⟨⟨vg, rfl, h⟩, ho⟩; (try replace HA := Lib.hid (HA.out.later ho)); (try replace HC := Lib.hid (HC.out.later ho)); (try replace HS := Lib.hid (HS.out.later ho)); (try replace HP := Lib.hid (HP.out.later ho)); (try replace HL := Lib.hid (HL.out.later ho)); (try replace HX := Lib.hid (HX.out.later ho)); (try replace HY := Lib.hid (HY.out.later ho)); (try replace HZ := Lib.hid (HZ.out.later ho)); (try replace HG := Lib.hid (HG.out.later ho)); (try replace HU := Lib.hid (HU.out.later ho)); (try replace HV := Lib.hid (HV.out.later ho)); (try replace HB := Lib.hid (HB.out.later ho)); (try replace HD := Lib.hid (HD.out.later ho)); (try replace HE := Lib.hid (HE.out.later ho)); (try (have hq1 := HC.out.cell 0; have hq2 := HC.out.cell 1; simp at hq1 hq2)); have HG := Lib.hid h; (try have HGlen := Lib.hid HXlen.out); (try have HGi := Lib.hid HXi.out); clear h; replace HO := Lib.hid (on_new HO.out ho); clear ho)
          | (go_at_call 20; (with_reducible refine (Same_t _ _ _ _ _ HG.out HA.out rfl).mono ?_); rintro e w25 ⟨rfl, ho⟩; (try replace HA := Lib.hid (HA.out.later ho)); (try replace HC := Lib.hid (HC.out.later ho)); (try replace HS := Lib.hid (HS.out.later ho)); (try replace HP := Lib.hid (HP.out.later ho)); (try replace HL := Lib.hid (HL.out.later ho)); (try replace HX := Lib.hid (HX.out.later ho)); (try replace HY := Lib.hid (HY.out.later ho)); (try replace HZ := Lib.hid (HZ.out.later ho)); (try replace HG := Lib.hid (HG.out.later ho)); (try replace HU := Lib.hid (HU.out.later ho)); (try replace HV := Lib.hid (HV.out.later ho)); (try replace HB := Lib.hid (HB.out.later ho)); (try replace HD := Lib.hid (HD.out.later ho)); (try replace HE := Lib.hid (HE.out.later ho)); (try (have hq1 := HC.out.cell 0; have hq2 := HC.out.cell 1; simp at hq1 hq2)); replace HO := Lib.hid (on_new HO.out ho); clear ho)
          | (go_at_call 11; (with_reducible refine (alive_c _).mono ?_); rintro e w26 ⟨rfl, ho⟩; (try replace HA := Lib.hid (HA.out.later ho)); (try replace HC := Lib.hid (HC.out.later ho)); (try replace HS := Lib.hid (HS.out.later ho)); (try replace HP := Lib.hid (HP.out.later ho)); (try replace HL := Lib.hid (HL.out.later ho)); (try replace HX := Lib.hid (HX.out.later ho)); (try replace HY := Lib.hid (HY.out.later ho)); (try replace HZ := Lib.hid (HZ.out.later ho)); (try replace HG := Lib.hid (HG.out.later ho)); (try replace HU := Lib.hid (HU.out.later ho)); (try replace HV := Lib.hid (HV.out.later ho)); (try replace HB := Lib.hid (HB.out.later ho)); (try replace HD := Lib.hid (HD.out.later ho)); (try replace HE := Lib.hid (HE.out.later ho)); (try (have hq1 := HC.out.cell 0; have hq2 := HC.out.cell 1; simp at hq1 hq2)); replace HO := Lib.hid (on_new HO.out ho); clear ho)
          | (go_at_call 21; (with_reducible refine (old_v _ _ _ HY.out (HFL.out _)).mono ?_); rintro e wu ⟨⟨vu, rfl, h⟩, ho⟩; (try replace HA := Lib.hid (HA.out.later ho)); (try replace HC := Lib.hid (HC.out.later ho)); (try replace HS := Lib.hid (HS.out.later ho)); (try replace HP := Lib.hid (HP.out.later ho)); (try replace HL := Lib.hid (HL.out.later ho)); (try replace HX := Lib.hid (HX.out.later ho)); (try replace HY := Lib.hid (HY.out.later ho)); (try replace HZ := Lib.hid (HZ.out.later ho)); (try replace HG := Lib.hid (HG.out.later ho)); (try replace HU := Lib.hid (HU.out.later ho)); (try replace HV := Lib.hid (HV.out.later ho)); (try replace HB := Lib.hid (HB.out.later ho)); (try replace HD := Lib.hid (HD.out.later ho)); (try replace HE := Lib.hid (HE.out.later ho)); (try (have hq1 := HC.out.cell 0; have hq2 := HC.out.cell 1; simp at hq1 hq2)); have HU := Lib.hid h; clear h; replace HO := Lib.hid (on_new HO.out ho); clear ho)
          | (go_at_call 21; (with_reducible refine (old_v _ _ _ HZ.out (HFL.out _)).mono ?_); rintro e wv ⟨⟨vv, rfl, h⟩, ho⟩; (try replace HA := Lib.hid (HA.out.later ho)); (try replace HC := Lib.hid (HC.out.later ho)); (try replace HS := Lib.hid (HS.out.later ho)); (try replace HP := Lib.hid (HP.out.later ho)); (try replace HL := Lib.hid (HL.out.later ho)); (try replace HX := Lib.hid (HX.out.later ho)); (try replace HY := Lib.hid (HY.out.later ho)); (try replace HZ := Lib.hid (HZ.out.later ho)); (try replace HG := Lib.hid (HG.out.later ho)); (try replace HU := Lib.hid (HU.out.later ho)); (try replace HV := Lib.hid (HV.out.later ho)); (try replace HB := Lib.hid (HB.out.later ho)); (try replace HD := Lib.hid (HD.out.later ho)); (try replace HE := Lib.hid (HE.out.later ho)); (try (have hq1 := HC.out.cell 0; have hq2 := HC.out.cell 1; simp at hq1 hq2)); have HV := Lib.hid h; clear h; replace HO := Lib.hid (on_new HO.out ho); clear ho)
          | (go_at_call 23; (with_reducible refine (Runs_m _ gw cw _ 600 rw' HP.out (by decide)).mono ?_); rintro e wb ⟨⟨vb, rfl, h⟩, ho⟩; (try replace HA := Lib.hid (HA.out.later ho)); (try replace HC := Lib.hid (HC.out.later ho)); (try replace HS := Lib.hid (HS.out.later ho)); (try replace HP := Lib.hid (HP.out.later ho)); (try replace HL := Lib.hid (HL.out.later ho)); (try replace HX := Lib.hid (HX.out.later ho)); (try replace HY := Lib.hid (HY.out.later ho)); (try replace HZ := Lib.hid (HZ.out.later ho)); (try replace HG := Lib.hid (HG.out.later ho)); (try replace HU := Lib.hid (HU.out.later ho)); (try replace HV := Lib.hid (HV.out.later ho)); (try replace HB := Lib.hid (HB.out.later ho)); (try replace HD := Lib.hid (HD.out.later ho)); (try replace HE := Lib.hid (HE.out.later ho)); (try (have hq1 := HC.out.cell 0; have hq2 := HC.out.cell 1; simp at hq1 hq2)); have HB := Lib.hid h; clear h; replace HO := Lib.hid (on_new HO.out ho); clear ho)
          | (go_at_call 23; (with_reducible refine (Runs_m _ gz cz _ 600 rz HL.out (by decide)).mono ?_); rintro e wd ⟨⟨vd, rfl, h⟩, ho⟩; (try replace HA := Lib.hid (HA.out.later ho)); (try replace HC := Lib.hid (HC.out.later ho)); (try replace HS := Lib.hid (HS.out.later ho)); (try replace HP := Lib.hid (HP.out.later ho)); (try replace HL := Lib.hid (HL.out.later ho)); (try replace HX := Lib.hid (HX.out.later ho)); (try replace HY := Lib.hid (HY.out.later ho)); (try replace HZ := Lib.hid (HZ.out.later ho)); (try replace HG := Lib.hid (HG.out.later ho)); (try replace HU := Lib.hid (HU.out.later ho)); (try replace HV := Lib.hid (HV.out.later ho)); (try replace HB := Lib.hid (HB.out.later ho)); (try replace HD := Lib.hid (HD.out.later ho)); (try replace HE := Lib.hid (HE.out.later ho)); (try (have hq1 := HC.out.cell 0; have hq2 := HC.out.cell 1; simp at hq1 hq2)); have HD := Lib.hid h; clear h; replace HO := Lib.hid (on_new HO.out ho); clear ho)
          | (go_at_call 23; (with_reducible refine (Runs_v _ _ _ HS.out).mono ?_); rintro e we ⟨⟨ve, rfl, h⟩, ho⟩; (try replace HA := Lib.hid (HA.out.later ho)); (try replace HC := Lib.hid (HC.out.later ho)); (try replace HS := Lib.hid (HS.out.later ho)); (try replace HP := Lib.hid (HP.out.later ho)); (try replace HL := Lib.hid (HL.out.later ho)); (try replace HX := Lib.hid (HX.out.later ho)); (try replace HY := Lib.hid (HY.out.later ho)); (try replace HZ := Lib.hid (HZ.out.later ho)); (try replace HG := Lib.hid (HG.out.later ho)); (try replace HU := Lib.hid (HU.out.later ho)); (try replace HV := Lib.hid (HV.out.later ho)); (try replace HB := Lib.hid (HB.out.later ho)); (try replace HD := Lib.hid (HD.out.later ho)); (try replace HE := Lib.hid (HE.out.later ho)); (try (have hq1 := HC.out.cell 0; have hq2 := HC.out.cell 1; simp at hq1 hq2)); have HE := Lib.hid h; clear h; replace HO := Lib.hid (on_new HO.out ho); clear ho)
          | (go_at_call 20; (with_reducible refine (Same_t _ _ _ _ _ HU.out HB.out rfl).mono ?_); rintro e w32 ⟨rfl, ho⟩; (try replace HA := Lib.hid (HA.out.later ho)); (try replace HC := Lib.hid (HC.out.later ho)); (try replace HS := Lib.hid (HS.out.later ho)); (try replace HP := Lib.hid (HP.out.later ho)); (try replace HL := Lib.hid (HL.out.later ho)); (try replace HX := Lib.hid (HX.out.later ho)); (try replace HY := Lib.hid (HY.out.later ho)); (try replace HZ := Lib.hid (HZ.out.later ho)); (try replace HG := Lib.hid (HG.out.later ho)); (try replace HU := Lib.hid (HU.out.later ho)); (try replace HV := Lib.hid (HV.out.later ho)); (try replace HB := Lib.hid (HB.out.later ho)); (try replace HD := Lib.hid (HD.out.later ho)); (try replace HE := Lib.hid (HE.out.later ho)); (try (have hq1 := HC.out.cell 0; have hq2 := HC.out.cell 1; simp at hq1 hq2)); replace HO := Lib.hid (on_new HO.out ho); clear ho)
          | (go_at_call 20; (with_reducible refine (Same_t _ _ _ _ _ HU.out HE.out rfl).mono ?_); rintro e w33 ⟨rfl, ho⟩; (try replace HA := Lib.hid (HA.out.later ho)); (try replace HC := Lib.hid (HC.out.later ho)); (try replace HS := Lib.hid (HS.out.later ho)); (try replace HP := Lib.hid (HP.out.later ho)); (try replace HL := Lib.hid (HL.out.later ho)); (try replace HX := Lib.hid (HX.out.later ho)); (try replace HY := Lib.hid (HY.out.later ho)); (try replace HZ := Lib.hid (HZ.out.later ho)); (try replace HG := Lib.hid (HG.out.later ho)); (try replace HU := Lib.hid (HU.out.later ho)); (try replace HV := Lib.hid (HV.out.later ho)); (try replace HB := Lib.hid (HB.out.later ho)); (try replace HD := Lib.hid (HD.out.later ho)); (try replace HE := Lib.hid (HE.out.later ho)); (try (have hq1 := HC.out.cell 0; have hq2 := HC.out.cell 1; simp at hq1 hq2)); replace HO := Lib.hid (on_new HO.out ho); clear ho)
          | (go_at_call 20; (with_reducible refine (Same_t _ _ _ _ _ HV.out HD.out rfl).mono ?_); rintro e w34 ⟨rfl, ho⟩; (try replace HA := Lib.hid (HA.out.later ho)); (try replace HC := Lib.hid (HC.out.later ho)); (try replace HS := Lib.hid (HS.out.later ho)); (try replace HP := Lib.hid (HP.out.later ho)); (try replace HL := Lib.hid (HL.out.later ho)); (try replace HX := Lib.hid (HX.out.later ho)); (try replace HY := Lib.hid (HY.out.later ho)); (try replace HZ := Lib.hid (HZ.out.later ho)); (try replace HG := Lib.hid (HG.out.later ho)); (try replace HU := Lib.hid (HU.out.later ho)); (try replace HV := Lib.hid (HV.out.later ho)); (try replace HB := Lib.hid (HB.out.later ho)); (try replace HD := Lib.hid (HD.out.later ho)); (try replace HE := Lib.hid (HE.out.later ho)); (try (have hq1 := HC.out.cell 0; have hq2 := HC.out.cell 1; simp at hq1 hq2)); replace HO := Lib.hid (on_new HO.out ho); clear ho)
          | (go_at_call 20; (with_reducible refine (Same_t _ _ _ _ _ HV.out HE.out rfl).mono ?_); rintro e w35 ⟨rfl, ho⟩; (try replace HA := Lib.hid (HA.out.later ho)); (try replace HC := Lib.hid (HC.out.later ho)); (try replace HS := Lib.hid (HS.out.later ho)); (try replace HP := Lib.hid (HP.out.later ho)); (try replace HL := Lib.hid (HL.out.later ho)); (try replace HX := Lib.hid (HX.out.later ho)); (try replace HY := Lib.hid (HY.out.later ho)); (try replace HZ := Lib.hid (HZ.out.later ho)); (try replace HG := Lib.hid (HG.out.later ho)); (try replace HU := Lib.hid (HU.out.later ho)); (try replace HV := Lib.hid (HV.out.later ho)); (try replace HB := Lib.hid (HB.out.later ho)); (try replace HD := Lib.hid (HD.out.later ho)); (try replace HE := Lib.hid (HE.out.later ho)); (try (have hq1 := HC.out.cell 0; have hq2 := HC.out.cell 1; simp at hq1 hq2)); replace HO := Lib.hid (on_new HO.out ho); clear ho))
        go_ret
        exact ⟨rfl, HO.out⟩
    · obtain ⟨rfl, rfl, hm0⟩ := hma rfl
      clear hma hmf
      go_enter Try.func4, Try.ntmps4
      go_wp2_with (fail)
      rw [← HWX.out.1, ← HWX.out.2]
      go_wp2_with (first
        | (go_at_call 10; (with_reducible refine (few_b _ _ _ _ HA.out HSA.out).mono ?_); rintro e w1 ⟨rfl, ho⟩; (try replace HA := Lib.hid (HA.out.later ho)); (try replace HC := Lib.hid (HC.out.later ho)); (try replace HS := Lib.hid (HS.out.later ho)); (try (have hq1 := HC.out.cell 0; have hq2 := HC.out.cell 1; simp at hq1 hq2)); replace HO := Lib.hid (on_new HO.out ho); clear ho)
        | (go_at_call 24; (with_reducible refine (HMC.out _).mono ?_); rintro e w2 ⟨rfl, ho⟩; (try replace HA := Lib.hid (HA.out.later ho)); (try replace HC := Lib.hid (HC.out.later ho)); (try replace HS := Lib.hid (HS.out.later ho)); (try (have hq1 := HC.out.cell 0; have hq2 := HC.out.cell 1; simp at hq1 hq2)); replace HO := Lib.hid (on_new HO.out ho); clear ho)
        | (go_at_call 12; (with_reducible refine (Set_v _ _ _ HA.out HAi.out).mono ?_); rintro e ws ⟨gs, rfl, hg, h, ho⟩; (try replace HA := Lib.hid (HA.out.later ho)); (try replace HC := Lib.hid (HC.out.later ho)); (try replace HS := Lib.hid (HS.out.later ho)); (try (have hq1 := HC.out.cell 0; have hq2 := HC.out.cell 1; simp at hq1 hq2)); have HS := Lib.hid h; have HSg := Lib.hid (Nat.le_trans HO.out.size hg); have HSlt := Lib.hid (And.intro hg h.lt); clear hg; clear h; replace HO := Lib.hid (on_new HO.out ho); clear ho)
        | (at_builtin; refine wpList_append_src _ rfl (.tmp 34) (.tmp 35) 26 rfl ws.heap.size 4 iB zB 1 1 Try.underlying26 HI.out.1 HI.out.2.1 HI.out.2.2.1 HI.out.2.2.2 (by rfl) (by omega) _ 0 [] rfl (own_litB ws) (some ⟨gs, 0, none⟩) 600 600 (bf (setOf l) 600) rfl (fun e => by cases e) (by rw [bf_length]) (fun ad e j u hu => by cases e; rw [Addr.add_lit, Nat.zero_add, (HS.out.later ((Only.refl _ ws).alloc (fun _ h => h) (.cells #[] 4))).cell]; exact hu) (bf_one _ _) (by simp only [maxLen]; omega) (by omega) (by simp) ?_; intro vw ww hw hg; have hq := bown (m := 600) (f := setOf l) (by decide) (by simpa using hw); obtain ⟨gw, cw, rw', rfl, hgw, hrw⟩ := hq; have ho := grown_new hg; have HNE1 := Lib.hid (And.intro HC.out.lt (And.intro HS.out.lt hgw)); have HW := Lib.hid hrw; replace HA := Lib.hid (HA.out.later ho); replace HC := Lib.hid (HC.out.later ho); replace HS := Lib.hid (HS.out.later ho); replace HO := Lib.hid (on_new HO.out ho); have hq1 := HC.out.cell 0; have hq2 := HC.out.cell 1; simp at hq1 hq2; clear hw hg ho hrw hgw)
        | (at_builtin; refine wpList_append_src _ rfl (.tmp 37) (.tmp 38) 26 rfl ww.heap.size 4 iB zB 1 1 Try.underlying26 HI.out.1 HI.out.2.1 HI.out.2.2.1 HI.out.2.2.2 (by rfl) (by omega) _ 0 [] rfl (own_litB ww) (some ⟨gs, 0, none⟩) 600 600 (bf (setOf l) 600) rfl (fun e => by cases e) (by rw [bf_length]) (fun ad e j u hu => by cases e; rw [Addr.add_lit, Nat.zero_add, (HS.out.later ((Only.refl _ ww).alloc (fun _ h => h) (.cells #[] 4))).cell]; exact hu) (bf_one _ _) (by simp only [maxLen]; omega) (by omega) (by simp) ?_; intro vz wz hw hg; have hq := bown (m := 600) (f := setOf l) (by decide) (by simpa using hw); obtain ⟨gz, cz, rz, rfl, hgw, hrw⟩ := hq; have ho := grown_new hg; have HNE2 := Lib.hid (And.intro (Blk.lt HW.out) hgw); have HZ := Lib.hid hrw; replace HA := Lib.hid (HA.out.later ho); replace HC := Lib.hid (HC.out.later ho); replace HS := Lib.hid (HS.out.later ho); replace HW := Lib.hid (HW.out.later ho); replace HO := Lib.hid (on_new HO.out ho); have hq1 := HC.out.cell 0; have hq2 := HC.out.cell 1; simp at hq1 hq2; clear hw hg ho hrw hgw))
      have HNE : Hid (bx ≠ gw ∧ bx ≠ gz ∧ gs ≠ gw ∧ gs ≠ gz ∧ gw ≠ gz ∧ w.heap.size ≤ gw ∧ w.heap.size ≤ gz) := by
        have h1 := HNE1.out
        have h2 := HNE2.out
        have h3 := HSg.out
        exact Lib.hid (by omega)
      have HP : Hid (BRow wz gw (plusF l a 0) 600 rw') := HW.out.congr fun q _ => plus_zero l a q
      have HL : Hid (BRow wz gz (lessF l a 0) 600 rz) := HZ.out.congr fun q _ => less_zero l a q
      clear HW HZ HNE1 HNE2 HSlt hq1 hq2
      go_loopw [6, 7, 10] (fun s t i wr => ∃ k : Nat, k ≤ m ∧ s = .bool (anyB l a k) ∧ t = .bool (allB l a k) ∧ i = .int .i64 k ∧ Hid (Blk wr bx 40 [.int .i64 (a : Int), .int .i64 (m : Int)]) ∧ Hid (Blk wr gs 4 (bf (setOf l) 600)) ∧ Hid (BRow wr gw (plusF l a k) 600 rw') ∧ Hid (BRow wr gz (lessF l a k) 600 rz) ∧ Only (w.heap.size ≤ ·) w wr) (fun _ _ i _ => m + 1 - (intOf i).toNat)
      case atStart => exact ⟨0, Nat.zero_le _, rfl, rfl, rfl, HC, HS, HP, HL, HO.out⟩
      case round =>
        obtain ⟨k, hk, rfl, rfl, rfl, HC, HS, HP, HL, ho⟩ := hrel
        have HQ := Lib.hid ho
        clear ho
        obtain ⟨sm, hsm⟩ : ∃ b, b = anyB l a k := ⟨_, rfl⟩
        obtain ⟨al, hal⟩ : ∃ b, b = allB l a k := ⟨_, rfl⟩
        rw [← hsm, ← hal]
        have HSM := Lib.hid hsm
        have HAL := Lib.hid hal
        clear hsm hal
        by_cases hlt : k < m
        · obtain ⟨sv, hsv⟩ : ∃ b, b = setOf l (a + k) := ⟨_, rfl⟩
          have HSV := Lib.hid hsv
          have hcs : wr.cell? ⟨gs, a + k, none⟩ = some (.bool sv) := by rw [HS.out.cell, bf_get _ (by omega), hsv]
          obtain ⟨ow, how⟩ : ∃ b, b = plusF l a k (a + k) := ⟨_, rfl⟩
          obtain ⟨oz, hoz⟩ : ∃ b, b = lessF l a k (a + k) := ⟨_, rfl⟩
          have hcw : wr.cell? ⟨gw, a + k, none⟩ = some (.bool ow) := by rw [HP.out.cell (by omega), how]
          have hcz : wr.cell? ⟨gz, a + k, none⟩ = some (.bool oz) := by rw [HL.out.cell (by omega), hoz]
          have HKEEP : Hid (∀ W, Only (wr.heap.size ≤ ·) wr W → W.cell? ⟨bx, 0, none⟩ = some (.int .i64 (a : Int)) ∧ W.cell? ⟨bx, 0 + 1, none⟩ = some (.int .i64 (m : Int)) ∧ W.cell? ⟨gs, a + k, none⟩ = some (.bool sv) ∧ W.cell? ⟨gw, a + k, none⟩ = some (.bool ow) ∧ W.cell? ⟨gz, a + k, none⟩ = some (.bool oz) ∧ W.frozen? ⟨gw, a + k, none⟩ = false ∧ W.frozen? ⟨gz, a + k, none⟩ = false) := fun W hW =>
            ⟨(HC.out.later hW).cell 0, (HC.out.later hW).cell 1, by rw [(HS.out.later hW).cell, bf_get _ (by omega), hsv], by rw [(HP.out.later hW).cell (by omega), how], by rw [(HL.out.later hW).cell (by omega), hoz], Blk.frozen (HP.out.later hW) _, Blk.frozen (HL.out.later hW) _⟩
          obtain ⟨k1, k2, k3, _, _, _, _⟩ := HKEEP.out wr (Only.refl _ _)
          have aw : IntKind.i64.wrap ((a : Int) + (k : Int)) = ((a + k : Nat) : Int) := by rw [IntWalk.i64_in _ (by omega)]; omega
          have hkm : (k : Int) < (m : Int) := by omega
          have HPN : Hid (∀ W, BRow W gw (plusF l a k) 600 rw' → BRow (W.setCell ⟨gw, a + k, none⟩ (.bool true)) gw (plusF l a (k + 1)) 600 rw') := fun W hW => hW.set_ (by omega) fun q _ => plus_succ l a k q
          have HLN : Hid (∀ W, BRow W gz (lessF l a k) 600 rz → BRow (W.setCell ⟨gz, a + k, none⟩ (.bool false)) gz (lessF l a (k + 1)) 600 rz) := fun W hW => hW.set_ (by omega) fun q _ => less_succ l a k q
          clear hsv how hoz hcs hcw hcz
          cases sm <;> cases al
          all_goals
            go_wp2_with (go_at_call 24; (with_reducible refine (HMC.out _).mono ?_); rintro e w9 ⟨rfl, ho9⟩; have H9 := HKEEP.out _ ho9; obtain ⟨l1, l2, l3, l4, l5, l6, l7⟩ := H9; have HO9 := Lib.hid ho9; clear ho9)
            go_quiet (fail)
            go_wp2
            obtain ⟨ne1, ne2, ne3, ne4, ne5, ne6, ne7⟩ := HNE.out
            go_region
            go_wp2
            go_roundw
            case rel => exact ⟨k + 1, by omega, congrArg Value.bool (by rw [anyB_succ, ← HSM.out, ← HSV.out] <;> rfl), congrArg Value.bool (by rw [allB_succ, ← HAL.out, ← HSV.out] <;> rfl), by go_num, Lib.hid ((((HC.out.later HO9.out).drewN _).far ne1 _).far ne2 _), Lib.hid ((((HS.out.later HO9.out).drewN _).far ne3 _).far ne4 _), Lib.hid (Blk.far (HPN.out _ (Blk.drewN (HP.out.later HO9.out) _)) ne5 _), Lib.hid (HLN.out _ (Blk.far (Blk.drewN (HL.out.later HO9.out) _) (Ne.symm ne5) _)), (((on_new HQ.out HO9.out).drewN _).setCell (p := ⟨gw, _, none⟩) ne6 _).setCell (p := ⟨gz, _, none⟩) ne7 _⟩
            case measure => simp [intOf]; omega
        · obtain rfl : k = m := by omega
          have hkm : ¬ (k : Int) < (k : Int) := by omega
          have HAD : Hid (∀ W v, Row W v l → Calls Try.prog 25 #[v, .agg #[.int .i64 (a : Int), .int .i64 (k : Int)]] W fun e w' => (∃ v, e = .returned (.tuple #[v, .bool (!sm)]) ∧ Row w' v (runsOf (if (!sm) = true then plusF l a k else setOf l) 600)) ∧ Only (W.heap.size ≤ ·) W w') := fun W v hv => Add_b W v l _ ((a : Int), (k : Int)) (!sm) hv HAi.out HXI.out (by rw [HSM.out]; exact add_cond HMX.out.symm) (fun u hu => plus_runs HSA.out.symm h600 u hu)
          have HDR : Hid (∀ W v, Row W v l → Calls Try.prog 26 #[v, .agg #[.int .i64 (a : Int), .int .i64 (k : Int)]] W fun e w' => (∃ v, e = .returned (.tuple #[v, .bool al]) ∧ Row w' v (runsOf (if al = true then lessF l a k else setOf l) 600)) ∧ Only (W.heap.size ≤ ·) W w') := fun W v hv => Drop_b W v l _ ((a : Int), (k : Int)) al hv HAi.out HXI.out (by rw [HAL.out]; exact drop_cond HMX.out.symm) (fun u hu => less_runs HSA.out.symm u hu)
          replace HA := Lib.hid (HA0.out.later HQ.out)
          replace HO := Lib.hid HQ.out
          have hq1 := HC.out.cell 0
          have hq2 := HC.out.cell 1
          simp at hq1 hq2
          clear HSM HAL
          cases sm <;> cases al
          all_goals
            go_wp2_with (first
              | (go_at_call 24; (with_reducible refine (HMC.out _).mono ?_); rintro e w20 ⟨rfl, ho⟩; (try replace HA := Lib.hid (HA.out.later ho)); (try replace HC := Lib.hid (HC.out.later ho)); (try replace HS := Lib.hid (HS.out.later ho)); (try replace HP := Lib.hid (HP.out.later ho)); (try replace HL := Lib.hid (HL.out.later ho)); (try replace HX := Lib.hid (HX.out.later ho)); (try replace HY := Lib.hid (HY.out.later ho)); (try replace HZ := Lib.hid (HZ.out.later ho)); (try replace HG := Lib.hid (HG.out.later ho)); (try replace HU := Lib.hid (HU.out.later ho)); (try replace HV := Lib.hid (HV.out.later ho)); (try replace HB := Lib.hid (HB.out.later ho)); (try replace HD := Lib.hid (HD.out.later ho)); (try replace HE := Lib.hid (HE.out.later ho)); (try (have hq1 := HC.out.cell 0; have hq2 := HC.out.cell 1; simp at hq1 hq2)); replace HO := Lib.hid (on_new HO.out ho); clear ho)
              | (go_at_call 14; (with_reducible refine (of_v _ _ _ HA.out (by first | exact HAlen.out | decide)).mono ?_); rintro e wx ⟨⟨vx, rfl, h⟩, ho⟩; (try replace HA := Lib.hid (HA.out.later ho)); (try replace HC := Lib.hid (HC.out.later ho)); (try replace HS := Lib.hid (HS.out.later ho)); (try replace HP := Lib.hid (HP.out.later ho)); (try replace HL := Lib.hid (HL.out.later ho)); (try replace HX := Lib.hid (HX.out.later ho)); (try replace HY := Lib.hid (HY.out.later ho)); (try replace HZ := Lib.hid (HZ.out.later ho)); (try replace HG := Lib.hid (HG.out.later ho)); (try replace HU := Lib.hid (HU.out.later ho)); (try replace HV := Lib.hid (HV.out.later ho)); (try replace HB := Lib.hid (HB.out.later ho)); (try replace HD := Lib.hid (HD.out.later ho)); (try replace HE := Lib.hid (HE.out.later ho)); (try (have hq1 := HC.out.cell 0; have hq2 := HC.out.cell 1; simp at hq1 hq2)); have HX := Lib.hid h; (try have HXlen := Lib.hid HAlen.out); (try have HXi := Lib.hid HAi.out); clear h; replace HO := Lib.hid (on_new HO.out ho); clear ho)
              | (go_at_call 25; (with_reducible refine (HAD.out _ _ HX.out).mono ?_); rintro e wy ⟨⟨vy, rfl, h⟩, ho⟩; (try replace HA := Lib.hid (HA.out.later ho)); (try replace HC := Lib.hid (HC.out.later ho)); (try replace HS := Lib.hid (HS.out.later ho)); (try replace HP := Lib.hid (HP.out.later ho)); (try replace HL := Lib.hid (HL.out.later ho)); (try replace HX := Lib.hid (HX.out.later ho)); (try replace HY := Lib.hid (HY.out.later ho)); (try replace HZ := Lib.hid (HZ.out.later ho)); (try replace HG := Lib.hid (HG.out.later ho)); (try replace HU := Lib.hid (HU.out.later ho)); (try replace HV := Lib.hid (HV.out.later ho)); (try replace HB := Lib.hid (HB.out.later ho)); (try replace HD := Lib.hid (HD.out.later ho)); (try replace HE := Lib.hid (HE.out.later ho)); (try (have hq1 := HC.out.cell 0; have hq2 := HC.out.cell 1; simp at hq1 hq2)); have HY := Lib.hid h; clear h; replace HO := Lib.hid (on_new HO.out ho); clear ho)
              | (go_at_call 26; (with_reducible refine (HDR.out _ _ HX.out).mono ?_); rintro e wz ⟨⟨vz, rfl, h⟩, ho⟩; (try replace HA := Lib.hid (HA.out.later ho)); (try replace HC := Lib.hid (HC.out.later ho)); (try replace HS := Lib.hid (HS.out.later ho)); (try replace HP := Lib.hid (HP.out.later ho)); (try replace HL := Lib.hid (HL.out.later ho)); (try replace HX := Lib.hid (HX.out.later ho)); (try replace HY := Lib.hid (HY.out.later ho)); (try replace HZ := Lib.hid (HZ.out.later ho)); (try replace HG := Lib.hid (HG.out.later ho)); (try replace HU := Lib.hid (HU.out.later ho)); (try replace HV := Lib.hid (HV.out.later ho)); (try replace HB := Lib.hid (HB.out.later ho)); (try replace HD := Lib.hid (HD.out.later ho)); (try replace HE := Lib.hid (HE.out.later ho)); (try (have hq1 := HC.out.cell 0; have hq2 := HC.out.cell 1; simp at hq1 hq2)); have HZ := Lib.hid h; clear h; replace HO := Lib.hid (on_new HO.out ho); clear ho)
              | (go_at_call 21; (with_reducible refine (old_v _ _ _ HX.out (by first | exact HXlen.out | decide)).mono ?_); rintro e wg ⟨⟨vg, rfl, h⟩, ho⟩; (try replace HA := Lib.hid (HA.out.later ho)); (try replace HC := Lib.hid (HC.out.later ho)); (try replace HS := Lib.hid (HS.out.later ho)); (try replace HP := Lib.hid (HP.out.later ho)); (try replace HL := Lib.hid (HL.out.later ho)); (try replace HX := Lib.hid (HX.out.later ho)); (try replace HY := Lib.hid (HY.out.later ho)); (try replace HZ := Lib.hid (HZ.out.later ho)); (try replace HG := Lib.hid (HG.out.later ho)); (try replace HU := Lib.hid (HU.out.later ho)); (try replace HV := Lib.hid (HV.out.later ho)); (try replace HB := Lib.hid (HB.out.later ho)); (try replace HD := Lib.hid (HD.out.later ho)); (try replace HE := Lib.hid (HE.out.later ho)); (try (have hq1 := HC.out.cell 0; have hq2 := HC.out.cell 1; simp at hq1 hq2)); have HG := Lib.hid h; (try have HGlen := Lib.hid HXlen.out); (try have HGi := Lib.hid HXi.out); clear h; replace HO := Lib.hid (on_new HO.out ho); clear ho)
              | (go_at_call 20; (with_reducible refine (Same_t _ _ _ _ _ HG.out HA.out rfl).mono ?_); rintro e w25 ⟨rfl, ho⟩; (try replace HA := Lib.hid (HA.out.later ho)); (try replace HC := Lib.hid (HC.out.later ho)); (try replace HS := Lib.hid (HS.out.later ho)); (try replace HP := Lib.hid (HP.out.later ho)); (try replace HL := Lib.hid (HL.out.later ho)); (try replace HX := Lib.hid (HX.out.later ho)); (try replace HY := Lib.hid (HY.out.later ho)); (try replace HZ := Lib.hid (HZ.out.later ho)); (try replace HG := Lib.hid (HG.out.later ho)); (try replace HU := Lib.hid (HU.out.later ho)); (try replace HV := Lib.hid (HV.out.later ho)); (try replace HB := Lib.hid (HB.out.later ho)); (try replace HD := Lib.hid (HD.out.later ho)); (try replace HE := Lib.hid (HE.out.later ho)); (try (have hq1 := HC.out.cell 0; have hq2 := HC.out.cell 1; simp at hq1 hq2)); replace HO := Lib.hid (on_new HO.out ho); clear ho)
              | (go_at_call 11; (with_reducible refine (alive_c _).mono ?_); rintro e w26 ⟨rfl, ho⟩; (try replace HA := Lib.hid (HA.out.later ho)); (try replace HC := Lib.hid (HC.out.later ho)); (try replace HS := Lib.hid (HS.out.later ho)); (try replace HP := Lib.hid (HP.out.later ho)); (try replace HL := Lib.hid (HL.out.later ho)); (try replace HX := Lib.hid (HX.out.later ho)); (try replace HY := Lib.hid (HY.out.later ho)); (try replace HZ := Lib.hid (HZ.out.later ho)); (try replace HG := Lib.hid (HG.out.later ho)); (try replace HU := Lib.hid (HU.out.later ho)); (try replace HV := Lib.hid (HV.out.later ho)); (try replace HB := Lib.hid (HB.out.later ho)); (try replace HD := Lib.hid (HD.out.later ho)); (try replace HE := Lib.hid (HE.out.later ho)); (try (have hq1 := HC.out.cell 0; have hq2 := HC.out.cell 1; simp at hq1 hq2)); replace HO := Lib.hid (on_new HO.out ho); clear ho)
              | (go_at_call 21; (with_reducible refine (old_v _ _ _ HY.out (HFL.out _)).mono ?_); rintro e wu ⟨⟨vu, rfl, h⟩, ho⟩; (try replace HA := Lib.hid (HA.out.later ho)); (try replace HC := Lib.hid (HC.out.later ho)); (try replace HS := Lib.hid (HS.out.later ho)); (try replace HP := Lib.hid (HP.out.later ho)); (try replace HL := Lib.hid (HL.out.later ho)); (try replace HX := Lib.hid (HX.out.later ho)); (try replace HY := Lib.hid (HY.out.later ho)); (try replace HZ := Lib.hid (HZ.out.later ho)); (try replace HG := Lib.hid (HG.out.later ho)); (try replace HU := Lib.hid (HU.out.later ho)); (try replace HV := Lib.hid (HV.out.later ho)); (try replace HB := Lib.hid (HB.out.later ho)); (try replace HD := Lib.hid (HD.out.later ho)); (try replace HE := Lib.hid (HE.out.later ho)); (try (have hq1 := HC.out.cell 0; have hq2 := HC.out.cell 1; simp at hq1 hq2)); have HU := Lib.hid h; clear h; replace HO := Lib.hid (on_new HO.out ho); clear ho)
              | (go_at_call 21; (with_reducible refine (old_v _ _ _ HZ.out (HFL.out _)).mono ?_); rintro e wv ⟨⟨vv, rfl, h⟩, ho⟩; (try replace HA := Lib.hid (HA.out.later ho)); (try replace HC := Lib.hid (HC.out.later ho)); (try replace HS := Lib.hid (HS.out.later ho)); (try replace HP := Lib.hid (HP.out.later ho)); (try replace HL := Lib.hid (HL.out.later ho)); (try replace HX := Lib.hid (HX.out.later ho)); (try replace HY := Lib.hid (HY.out.later ho)); (try replace HZ := Lib.hid (HZ.out.later ho)); (try replace HG := Lib.hid (HG.out.later ho)); (try replace HU := Lib.hid (HU.out.later ho)); (try replace HV := Lib.hid (HV.out.later ho)); (try replace HB := Lib.hid (HB.out.later ho)); (try replace HD := Lib.hid (HD.out.later ho)); (try replace HE := Lib.hid (HE.out.later ho)); (try (have hq1 := HC.out.cell 0; have hq2 := HC.out.cell 1; simp at hq1 hq2)); have HV := Lib.hid h; clear h; replace HO := Lib.hid (on_new HO.out ho); clear ho)
              | (go_at_call 23; (with_reducible refine (Runs_m _ gw cw _ 600 rw' HP.out (by decide)).mono ?_); rintro e wb ⟨⟨vb, rfl, h⟩, ho⟩; (try replace HA := Lib.hid (HA.out.later ho)); (try replace HC := Lib.hid (HC.out.later ho)); (try replace HS := Lib.hid (HS.out.later ho)); (try replace HP := Lib.hid (HP.out.later ho)); (try replace HL := Lib.hid (HL.out.later ho)); (try replace HX := Lib.hid (HX.out.later ho)); (try replace HY := Lib.hid (HY.out.later ho)); (try replace HZ := Lib.hid (HZ.out.later ho)); (try replace HG := Lib.hid (HG.out.later ho)); (try replace HU := Lib.hid (HU.out.later ho)); (try replace HV := Lib.hid (HV.out.later ho)); (try replace HB := Lib.hid (HB.out.later ho)); (try replace HD := Lib.hid (HD.out.later ho)); (try replace HE := Lib.hid (HE.out.later ho)); (try (have hq1 := HC.out.cell 0; have hq2 := HC.out.cell 1; simp at hq1 hq2)); have HB := Lib.hid h; clear h; replace HO := Lib.hid (on_new HO.out ho); clear ho)
              | (go_at_call 23; (with_reducible refine (Runs_m _ gz cz _ 600 rz HL.out (by decide)).mono ?_); rintro e wd ⟨⟨vd, rfl, h⟩, ho⟩; (try replace HA := Lib.hid (HA.out.later ho)); (try replace HC := Lib.hid (HC.out.later ho)); (try replace HS := Lib.hid (HS.out.later ho)); (try replace HP := Lib.hid (HP.out.later ho)); (try replace HL := Lib.hid (HL.out.later ho)); (try replace HX := Lib.hid (HX.out.later ho)); (try replace HY := Lib.hid (HY.out.later ho)); (try replace HZ := Lib.hid (HZ.out.later ho)); (try replace HG := Lib.hid (HG.out.later ho)); (try replace HU := Lib.hid (HU.out.later ho)); (try replace HV := Lib.hid (HV.out.later ho)); (try replace HB := Lib.hid (HB.out.later ho)); (try replace HD := Lib.hid (HD.out.later ho)); (try replace HE := Lib.hid (HE.out.later ho)); (try (have hq1 := HC.out.cell 0; have hq2 := HC.out.cell 1; simp at hq1 hq2)); have HD := Lib.hid h; clear h; replace HO := Lib.hid (on_new HO.out ho); clear ho)
              | (go_at_call 23; (with_reducible refine (Runs_v _ _ _ HS.out).mono ?_); rintro e we ⟨⟨ve, rfl, h⟩, ho⟩; (try replace HA := Lib.hid (HA.out.later ho)); (try replace HC := Lib.hid (HC.out.later ho)); (try replace HS := Lib.hid (HS.out.later ho)); (try replace HP := Lib.hid (HP.out.later ho)); (try replace HL := Lib.hid (HL.out.later ho)); (try replace HX := Lib.hid (HX.out.later ho)); (try replace HY := Lib.hid (HY.out.later ho)); (try replace HZ := Lib.hid (HZ.out.later ho)); (try replace HG := Lib.hid (HG.out.later ho)); (try replace HU := Lib.hid (HU.out.later ho)); (try replace HV := Lib.hid (HV.out.later ho)); (try replace HB := Lib.hid (HB.out.later ho)); (try replace HD := Lib.hid (HD.out.later ho)); (try replace HE := Lib.hid (HE.out.later ho)); (try (have hq1 := HC.out.cell 0; have hq2 := HC.out.cell 1; simp at hq1 hq2)); have HE := Lib.hid h; clear h; replace HO := Lib.hid (on_new HO.out ho); clear ho)
              | (go_at_call 20; (with_reducible refine (Same_t _ _ _ _ _ HU.out HB.out rfl).mono ?_); rintro e w32 ⟨rfl, ho⟩; (try replace HA := Lib.hid (HA.out.later ho)); (try replace HC := Lib.hid (HC.out.later ho)); (try replace HS := Lib.hid (HS.out.later ho)); (try replace HP := Lib.hid (HP.out.later ho)); (try replace HL := Lib.hid (HL.out.later ho)); (try replace HX := Lib.hid (HX.out.later ho)); (try replace HY := Lib.hid (HY.out.later ho)); (try replace HZ := Lib.hid (HZ.out.later ho)); (try replace HG := Lib.hid (HG.out.later ho)); (try replace HU := Lib.hid (HU.out.later ho)); (try replace HV := Lib.hid (HV.out.later ho)); (try replace HB := Lib.hid (HB.out.later ho)); (try replace HD := Lib.hid (HD.out.later ho)); (try replace HE := Lib.hid (HE.out.later ho)); (try (have hq1 := HC.out.cell 0; have hq2 := HC.out.cell 1; simp at hq1 hq2)); replace HO := Lib.hid (on_new HO.out ho); clear ho)
              | (go_at_call 20; (with_reducible refine (Same_t _ _ _ _ _ HU.out HE.out rfl).mono ?_); rintro e w33 ⟨rfl, ho⟩; (try replace HA := Lib.hid (HA.out.later ho)); (try replace HC := Lib.hid (HC.out.later ho)); (try replace HS := Lib.hid (HS.out.later ho)); (try replace HP := Lib.hid (HP.out.later ho)); (try replace HL := Lib.hid (HL.out.later ho)); (try replace HX := Lib.hid (HX.out.later ho)); (try replace HY := Lib.hid (HY.out.later ho)); (try replace HZ := Lib.hid (HZ.out.later ho)); (try replace HG := Lib.hid (HG.out.later ho)); (try replace HU := Lib.hid (HU.out.later ho)); (try replace HV := Lib.hid (HV.out.later ho)); (try replace HB := Lib.hid (HB.out.later ho)); (try replace HD := Lib.hid (HD.out.later ho)); (try replace HE := Lib.hid (HE.out.later ho)); (try (have hq1 := HC.out.cell 0; have hq2 := HC.out.cell 1; simp at hq1 hq2)); replace HO := Lib.hid (on_new HO.out ho); clear ho)
              | (go_at_call 20; (with_reducible refine (Same_t _ _ _ _ _ HV.out HD.out rfl).mono ?_); rintro e w34 ⟨rfl, ho⟩; (try replace HA := Lib.hid (HA.out.later ho)); (try replace HC := Lib.hid (HC.out.later ho)); (try replace HS := Lib.hid (HS.out.later ho)); (try replace HP := Lib.hid (HP.out.later ho)); (try replace HL := Lib.hid (HL.out.later ho)); (try replace HX := Lib.hid (HX.out.later ho)); (try replace HY := Lib.hid (HY.out.later ho)); (try replace HZ := Lib.hid (HZ.out.later ho)); (try replace HG := Lib.hid (HG.out.later ho)); (try replace HU := Lib.hid (HU.out.later ho)); (try replace HV := Lib.hid (HV.out.later ho)); (try replace HB := Lib.hid (HB.out.later ho)); (try replace HD := Lib.hid (HD.out.later ho)); (try replace HE := Lib.hid (HE.out.later ho)); (try (have hq1 := HC.out.cell 0; have hq2 := HC.out.cell 1; simp at hq1 hq2)); replace HO := Lib.hid (on_new HO.out ho); clear ho)
              | (go_at_call 20; (with_reducible refine (Same_t _ _ _ _ _ HV.out HE.out rfl).mono ?_); rintro e w35 ⟨rfl, ho⟩; (try replace HA := Lib.hid (HA.out.later ho)); (try replace HC := Lib.hid (HC.out.later ho)); (try replace HS := Lib.hid (HS.out.later ho)); (try replace HP := Lib.hid (HP.out.later ho)); (try replace HL := Lib.hid (HL.out.later ho)); (try replace HX := Lib.hid (HX.out.later ho)); (try replace HY := Lib.hid (HY.out.later ho)); (try replace HZ := Lib.hid (HZ.out.later ho)); (try replace HG := Lib.hid (HG.out.later ho)); (try replace HU := Lib.hid (HU.out.later ho)); (try replace HV := Lib.hid (HV.out.later ho)); (try replace HB := Lib.hid (HB.out.later ho)); (try replace HD := Lib.hid (HD.out.later ho)); (try replace HE := Lib.hid (HE.out.later ho)); (try (have hq1 := HC.out.cell 0; have hq2 := HC.out.cell 1; simp at hq1 hq2)); replace HO := Lib.hid (on_new HO.out ho); clear ho))
            go_ret
            exact ⟨rfl, HO.out⟩
end Go.Proofs.Ytjnaejogclmooaa
