/-
  RunOrders: the walk.
-/
import Derived.Test.YtjnaejogclmooaaRcnt
import Derived.Test.YtjnaejogclmooaaOf
set_option linter.unusedVariables false
namespace Go.Proofs.Ytjnaejogclmooaa
open Go.RowKit

/-- A slice of numbers in memory. -/
def Nums (w : World) (A : Option Addr) (n c : Nat) (zs : List Int) : Prop := zs.length = n ∧ n ≤ c ∧ c ≤ 9223372036854775807 ∧ (A = none → n = 0 ∧ c = 0) ∧ (0 < n → ∃ b off, A = some ⟨b, off, none⟩ ∧ b < w.heap.size ∧ ∀ j, j < n → w.cell? ⟨b, off + j, none⟩ = some (.int .i64 (zs[j]?.getD 0)))
section
variable {w w' : World} {A : Option Addr} {n c : Nat} {zs : List Int}
theorem Nums.later (h : Nums w A n c zs) (ho : Only (w.heap.size ≤ ·) w w') : Nums w' A n c zs := by
  obtain ⟨h1, h2, h3, h4, h5⟩ := h
  refine ⟨h1, h2, h3, h4, fun h0 => ?_⟩
  obtain ⟨b, off, e, hb, hc⟩ := h5 h0
  exact ⟨b, off, e, Nat.lt_of_lt_of_le hb ho.size, fun j hj => (ho.cell (p := ⟨b, off + j, none⟩) (Nat.not_le.2 hb)).trans (hc j hj)⟩
theorem Nums.ints (h : Nums w A n c zs) : Ints w.heap.size w (.slice A n c) zs := by
  obtain ⟨h1, _, _, _, h5⟩ := h
  by_cases h0 : 0 < n
  · obtain ⟨b, off, rfl, hb, hc⟩ := h5 h0
    exact .inr ⟨b, off, c, by rw [h1], hb, fun j hj => hc j (by omega)⟩
  · obtain rfl : n = 0 := by omega
    exact .inl ⟨A, c, rfl, List.eq_nil_of_length_eq_zero h1⟩
theorem Nums.part (h : Nums w A n c zs) (k : Nat) : ∀ ad, (if c = k then A else A.map (·.add k)) = some ad → ∀ j u, ((zs.drop k).map (Value.int .i64))[j]? = some u → w.cell? (ad.add j) = some u := by
  obtain ⟨h1, h2, h3, h4, h5⟩ := h
  intro ad e j u hu
  rw [List.getElem?_map, List.getElem?_drop] at hu
  have hj : k + j < n := by
    rcases Nat.lt_or_ge (k + j) n with h | h
    · exact h
    · rw [List.getElem?_eq_none (by omega)] at hu; cases hu
  obtain ⟨b, off, rfl, hb, hc⟩ := h5 (by omega)
  rw [if_neg (by omega)] at e
  simp only [Option.map_some, Option.some.injEq, Addr.add_lit] at e
  subst e
  have := hc (k + j) hj
  rw [Addr.add_lit, Nat.add_assoc, this]
  rw [List.getElem?_eq_getElem (by omega)] at hu ⊢
  simpa using hu
theorem Nums.all (h : Nums w A n c zs) : ∀ ad, A = some ad → ∀ j u, (zs.map (Value.int .i64))[j]? = some u → w.cell? (ad.add j) = some u := by
  intro ad e j u hu
  obtain ⟨h1, h2, h3, h4, h5⟩ := h
  rw [List.getElem?_map] at hu
  have hj : j < n := by
    rcases Nat.lt_or_ge j n with h | h
    · exact h
    · rw [List.getElem?_eq_none (by omega)] at hu; cases hu
  obtain ⟨b, off, e', hb, hc⟩ := h5 (by omega)
  rw [e] at e'
  cases e'
  rw [Addr.add_lit, hc j hj]
  rw [List.getElem?_eq_getElem (by omega)] at hu ⊢
  simpa using hu
end
def Pg (zs : List Int) (p : Int) : Prop := p ∈ zs ∧ 0 ≤ p ∧ p < 32768
theorem Of_v (W : World) (A : Option Addr) (n c : Nat) (zs : List Int) (h : Nums W A n c zs) (hl : n ≤ 1000000) (hr : ∀ p ∈ zs, -9223372036854775808 ≤ p ∧ p ≤ 9223372036854775807) : Calls Try.prog 22 #[.slice A n c] W (GivesU W (Pg zs)) :=
  (Of_c W A n c zs h.ints h.1.symm (by rw [h.1]; exact hl) hr).mono fun e w' ⟨v, n, u, h1, h2, h3, h4⟩ => ⟨⟨v, u, h1, h2.row, h3⟩, h4⟩
theorem IRow.nums {w : World} {A : Option Addr} {c : Nat} {ps : List Int} (h : IRow w A c ps) : Nums w A ps.length c ps := by
  rcases h with ⟨rfl, rfl, rfl⟩ | ⟨g, rfl, h2, h3, h4, h5⟩
  · exact ⟨rfl, Nat.le_refl _, by omega, fun _ => ⟨rfl, rfl⟩, fun h => absurd h (by decide)⟩
  · refine ⟨rfl, h3, h4, (fun e => by cases e), fun _ => ⟨g, 0, rfl, h2, fun j hj => ?_⟩⟩
    rw [Nat.zero_add, h5 j ps[j] (List.getElem?_eq_getElem hj), List.getElem?_eq_getElem hj]; rfl
theorem own_nums {W : World} {B N : Nat} {v : Value} {xs : List Value} {zs : List Int} (h : W.ownsRow B 3 1 v N xs) (hN : N = zs.length) (hx : xs = zs.map (Value.int .i64)) : ∃ A c n, v = .slice A n c ∧ n = N ∧ Nums W A n c zs := by
  subst hN hx
  rcases Joins.ownsRow_forms h with ⟨rfl, hz⟩ | ⟨g, cap, rfl⟩
  · obtain rfl : zs = [] := List.eq_nil_of_length_eq_zero hz
    exact ⟨none, 0, 0, rfl, rfl, rfl, Nat.le_refl _, by omega, fun _ => ⟨rfl, rfl⟩, fun h => absurd h (by decide)⟩
  · have hc : zs.length ≤ cap ∧ cap ≤ 9223372036854775807 := by
      rcases h.2 with ⟨e, _⟩ | ⟨g', cap', cur, e, hb, hg, hc, hm, _, _⟩
      · cases e
      · cases e; exact ⟨hc, by simpa only [maxLen] using hm⟩
    refine ⟨_, cap, _, rfl, rfl, rfl, hc.1, hc.2, (fun e => by cases e), fun _ => ⟨g, 0, rfl, (World.ownsRow.lt h g rfl).2, fun j hj => ?_⟩⟩
    have := h.cells (g := g) rfl j (.int .i64 zs[j]) (by rw [List.getElem?_map, List.getElem?_eq_getElem hj]; rfl)
    rw [Addr.add_lit] at this
    rw [this, List.getElem?_eq_getElem hj]; rfl
/-- The right row of these pages. -/
def rowOf (zs : List Int) : List R := runsOf (fun q : Nat => decide ((q : Int) ∈ zs)) 32768
theorem rowOf_row (zs : List Int) : IsRow (rowOf zs) (Pg zs) := (runsOf_row _ 32768 (by decide)).congr fun p => by
  unfold Pg
  constructor
  · rintro ⟨q, h1, rfl, h3⟩
    exact ⟨by simpa using h3, by omega, by omega⟩
  · rintro ⟨h1, h2, h3⟩
    exact ⟨p.toNat, by omega, by omega, by simpa [show ((p.toNat : Nat) : Int) = p by omega] using h1⟩
theorem Of_e (W : World) (A : Option Addr) (n c : Nat) (zs : List Int) (la : List R) (h : Nums W A n c zs) (hl : n ≤ 1000000) (hr : ∀ p ∈ zs, -9223372036854775808 ≤ p ∧ p ≤ 9223372036854775807) (hu : IsRow la (Pg zs)) : Calls Try.prog 22 #[.slice A n c] W (Gives W la) :=
  (Of_v W A n c zs h hl hr).mono fun e w' ⟨⟨v, u, h1, h2, h3⟩, h4⟩ => ⟨⟨v, h1, by rw [hu.eq h3]; exact h2⟩, h4⟩
theorem pages_row {u : List R} {S : Int → Prop} (h : IsRow u S) {v : List R} (k : IsRow v (Pg (pagesOf (known u)))) : v = u := by
  refine k.eq (h.congr fun p => ?_)
  unfold Pg
  rw [known_of h.1, mem_pagesOf h.1, ← h.2]
  exact ⟨fun hp => ⟨hp, inn_lt h.1 hp⟩, fun hp => hp.1⟩

set_option maxRecDepth 100000 in
set_option maxHeartbeats 6400000 in
theorem orders_bad (w : World) (A : Option Addr) (n c : Nat) (k : Int) (hn : n ≤ 9223372036854775807) (hbad : 200 < n ∨ k < 0 ∨ max (n : Int) 1 ≤ k) :
    Calls Try.prog 8 #[.slice A n c, .int .i64 k] w (Told w (.bool true)) := by
  have HO : Hid (Only (w.heap.size ≤ ·) w w) := Only.refl _ w
  by_cases h1 : 200 < n
  · have h1' : (200 : Int) < (n : Int) := by omega
    clear hbad
    go_enter Try.func8, Try.ntmps8
    go_wp2_with (first
      | (go_at_call 11; (with_reducible refine (alive_c _).mono ?_); rintro e w1 ⟨rfl, ho⟩; replace HO := Lib.hid (on_new HO.out ho); clear ho))
    go_ret
    exact ⟨rfl, HO.out⟩
  · have h1' : ¬ (200 : Int) < (n : Int) := by omega
    by_cases h2 : k < 0
    · clear hbad
      go_enter Try.func8, Try.ntmps8
      go_wp2_with (first
        | (go_at_call 11; (with_reducible refine (alive_c _).mono ?_); rintro e w1 ⟨rfl, ho⟩; replace HO := Lib.hid (on_new HO.out ho); clear ho))
      go_ret
      exact ⟨rfl, HO.out⟩
    · have h3 : max (n : Int) 1 ≤ k := by omega
      have hd : decide (max (n : Int) 1 ≤ k) = true := decide_eq_true h3
      clear hbad
      go_enter Try.func8, Try.ntmps8
      go_wp2_with (first
        | (go_at_call 11; (with_reducible refine (alive_c _).mono ?_); rintro e w1 ⟨rfl, ho⟩; replace HO := Lib.hid (on_new HO.out ho); clear ho))
      go_ret
      exact ⟨rfl, HO.out⟩

set_option maxRecDepth 100000 in
set_option maxHeartbeats 6400000 in
theorem orders_good (w : World) (A : Option Addr) (n c k : Nat) (zs : List Int) (h : Nums w A n c zs) (hr : ∀ p ∈ zs, -9223372036854775808 ≤ p ∧ p ≤ 9223372036854775807) (hn : n ≤ 200) (hk : k < max n 1) :
    Calls Try.prog 8 #[.slice A n c, .int .i64 k] w (Told w (.bool true)) := by
  obtain ⟨i0, hi0, hz0, hz1, hz2⟩ := info_parts infoI
  have HI := Lib.hid (And.intro hi0 (And.intro hz0 (And.intro hz1 hz2)))
  have hkn : k ≤ n := by omega
  have hc1 := h.2.1
  have hc2 := h.2.2.1
  obtain ⟨la, hla⟩ : ∃ la, la = rowOf zs := ⟨_, rfl⟩
  have hrow : IsRow la (Pg zs) := by rw [hla]; exact rowOf_row zs
  have HLlen := Lib.hid (row_len hrow)
  have HLi := Lib.hid (i64_of hrow.1)
  have HLR := Lib.hid hrow.1
  have HUA : Hid (IsRow la (Pg zs)) := hrow
  have HUT : Hid (IsRow la (Pg (zs.drop k ++ zs))) := hrow.congr fun p => by
    unfold Pg
    rw [List.mem_append]
    exact ⟨fun h => ⟨.inr h.1, h.2⟩, fun h => ⟨h.1.elim List.mem_of_mem_drop id, h.2⟩⟩
  have HZT : Hid (∀ p ∈ zs.drop k ++ zs, -9223372036854775808 ≤ p ∧ p ≤ 9223372036854775807) := fun p hp => hr p ((List.mem_append.1 hp).elim List.mem_of_mem_drop id)
  have HZTL : Hid (0 + (n - k) + n = (zs.drop k ++ zs).length) := by show _ = _; rw [List.length_append, List.length_drop, h.1]; omega
  obtain ⟨ps, hps⟩ : ∃ ps, ps = pagesOf (known la) := ⟨_, rfl⟩
  have hps' : ps = pagesOf la := by rw [hps, known_of hrow.1]
  obtain ⟨N, hN⟩ : ∃ N, N = ps.length := ⟨_, rfl⟩
  have hN1 : N ≤ 32768 := by rw [hN, hps', pages_len hrow.1]; exact card_le la
  have HN := Lib.hid hN
  have HPE := Lib.hid hps
  have HPN2 : Hid (N = (pagesOf (known la)).length) := by rw [← hps]; exact hN
  have HUP : Hid (IsRow la (Pg ps)) := hrow.congr fun p => by
    rw [hps']
    unfold Pg
    rw [mem_pagesOf hrow.1, hrow.2]
    exact ⟨fun h => ⟨h, h.2⟩, fun h => h.1⟩
  have HPI : Hid (∀ p ∈ ps, -9223372036854775808 ≤ p ∧ p ≤ 9223372036854775807) := fun p hp => by
    rw [hps', mem_pagesOf hrow.1, hrow.2] at hp
    unfold Pg at hp
    omega
  have HPR : Hid (ps.Pairwise (· < ·)) := by rw [hps']; exact pages_rise hrow.1
  clear hla hrow hps hps' hN
  have HA := Lib.hid h
  have HZi := Lib.hid hr
  have h1' : ¬ (200 : Int) < (n : Int) := by omega
  have h2' : ¬ (k : Int) < 0 := by omega
  have h3' : ¬ max (n : Int) 1 ≤ (k : Int) := by omega
  have hd3 : decide (max (n : Int) 1 ≤ (k : Int)) = false := decide_eq_false h3'
  have hkn' : (k : Int) ≤ (n : Int) := by omega
  have HT0 : Hid ((w.alloc (.cells #[] 3)).ownsRow w.heap.size 3 1 (.slice (some ⟨w.heap.size, 0, none⟩) 0 0) 0 []) := by
    have := World.ownsRow_lit (base := w.heap.size) (e := 3) (size := 1) w #[] 0 (Nat.le_refl _) (by decide) rfl
    exact Lib.hid (by simpa using this)
  have HO0 : Hid (Only (w.heap.size ≤ ·) w (w.alloc (.cells #[] 3))) := (Only.refl _ w).alloc (fun _ h => h) _
  have HZ := Lib.hid h.1
  have HPN : Hid ((if c = k then A else A.map (·.add k)) = none → n - k = 0 ∧ c - k = 0) := fun e => by
    by_cases hck : c = k
    · omega
    · rw [if_neg hck] at e
      cases A with
      | some a => cases e
      | none => have := h.2.2.2.1 rfl; omega
  have HPL : Hid (((zs.drop k).map (Value.int .i64)).length = (n - k) * 1) := by show _ = _; rw [List.length_map, List.length_drop, h.1]; omega
  have HAL : Hid ((zs.map (Value.int .i64)).length = n * 1) := by show _ = _; rw [List.length_map, h.1]; omega
  have HPS : Hid (∀ ad, (if c = k then A else A.map (·.add k)) = some ad → ∀ j u, ((zs.drop k).map (Value.int .i64))[j]? = some u → (w.alloc (.cells #[] 3)).cell? (ad.add j) = some u) := (h.later HO0.out).part k
  have HAN : Hid (A = none → n = 0 ∧ c = 0) := h.2.2.2.1
  clear h hr hi0 hz0 hz1 hz2
  go_enter Try.func8, Try.ntmps8
  go_wp2_with (first
    | (at_builtin; refine wpList_append_src _ rfl (.tmp 25) (.tmp 28) 23 rfl w.heap.size 3 i0 z0 1 8 Try.underlying23 HI.out.1 HI.out.2.1 HI.out.2.2.1 HI.out.2.2.2 (by rfl) (by omega) _ 0 [] rfl HT0.out (if c = k then A else A.map (·.add k)) (n - k) (c - k) ((zs.drop k).map (Value.int .i64)) rfl HPN.out HPL.out HPS.out (ic_one _) (by simp only [maxLen]; omega) (by omega) (by simp) ?_; intro v1 w1 ho1 hg1; have HV1 := Lib.hid ho1; have HO := Lib.hid (HO0.out.grown hg1 (fun _ h => h) (fun g hg => by cases hg; exact Nat.le_refl _)); have HS2 := Lib.hid (HA.out.later HO.out).all; clear ho1 hg1)
    | (at_builtin; refine wpList_append_src _ rfl (.tmp 29) (.tmp 30) 23 rfl w.heap.size 3 i0 z0 1 8 Try.underlying23 HI.out.1 HI.out.2.1 HI.out.2.2.1 HI.out.2.2.2 (by rfl) (by omega) _ (0 + (n - k)) _ rfl HV1.out A n c (zs.map (Value.int .i64)) rfl HAN.out HAL.out HS2.out (ic_one _) (by simp only [maxLen]; omega) (by omega) HO.out.size ?_; intro v2 w2 ho2 hg2; obtain ⟨A2, c2, n2, rfl, hn2, hT⟩ := own_nums ho2 HZTL.out (by simp); have hn2' : n2 ≤ 400 := (by omega); have HT := Lib.hid hT; replace HO := Lib.hid (HO.out.grown hg2 (fun _ h => h) (fun g hg => (World.ownsRow.lt HV1.out g hg).1)); replace HA := Lib.hid (HA.out.later HO.out); clear ho2 hg2 hT hn2)
    | (go_at_call 22; (with_reducible refine (Of_e _ _ _ _ _ _ HA.out (by omega) HZi.out HUA.out).mono ?_); rintro e wx ⟨⟨vx, rfl, h⟩, ho⟩; (try replace HA := Lib.hid (HA.out.later ho)); (try replace HT := Lib.hid (HT.out.later ho)); (try replace HX := Lib.hid (HX.out.later ho)); (try replace HY := Lib.hid (HY.out.later ho)); (try replace HP := Lib.hid (HP.out.later ho)); have HX := Lib.hid h; have HXlen := Lib.hid HLlen.out; have HXi := Lib.hid HLi.out; clear h; replace HO := Lib.hid (on_new HO.out ho); clear ho)
    | (go_at_call 22; (with_reducible refine (Of_e _ _ _ _ _ _ HT.out (by omega) HZT.out HUT.out).mono ?_); rintro e wy ⟨⟨vy, rfl, h⟩, ho⟩; (try replace HA := Lib.hid (HA.out.later ho)); (try replace HT := Lib.hid (HT.out.later ho)); (try replace HX := Lib.hid (HX.out.later ho)); (try replace HY := Lib.hid (HY.out.later ho)); (try replace HP := Lib.hid (HP.out.later ho)); have HY := Lib.hid h; have HYlen := Lib.hid HLlen.out; have HYi := Lib.hid HLi.out; clear h; replace HO := Lib.hid (on_new HO.out ho); clear ho)
    | (go_at_call 13; (with_reducible refine (Pages_s _ _ _ N HX.out HXi.out HPN2.out).mono ?_); rintro e wp ⟨⟨ap, cp, rfl, h⟩, ho⟩; (try replace HA := Lib.hid (HA.out.later ho)); (try replace HT := Lib.hid (HT.out.later ho)); (try replace HX := Lib.hid (HX.out.later ho)); (try replace HY := Lib.hid (HY.out.later ho)); (try replace HP := Lib.hid (HP.out.later ho)); have HP := Lib.hid h; clear h; replace HO := Lib.hid (on_new HO.out ho); clear ho))
  all_goals
    rw [← HPE.out] at HP
    go_loopw [9] (fun i wr => ∃ (q : Nat), q ≤ N ∧ i = .int .i64 ((q + 1 : Nat) : Int) ∧ Only (wp.heap.size ≤ ·) wp wr) (fun i _ => N + 1 - (intOf i).toNat)
    case atStart => exact ⟨0, Nat.zero_le _, rfl, Only.refl _ _⟩
    case round =>
      obtain ⟨q, hq, rfl, ho⟩ := hrel
      have HQ := Lib.hid ho
      clear ho
      by_cases hlt : q + 1 < N
      · obtain ⟨g, y, rfl, hy, hcy⟩ := (HP.out.later HQ.out).at_ (k := q) (by rw [← HN.out]; omega)
        obtain ⟨g', z, e, hz, hcz⟩ := (HP.out.later HQ.out).at_ (k := q + 1) (by rw [← HN.out]; exact hlt)
        obtain rfl : g = g' := by injection e with e; injection e
        have hyz : y < z := by
          have := List.pairwise_iff_getElem.1 HPR.out q (q + 1) (by rw [← HN.out]; omega) (by rw [← HN.out]; exact hlt) (by omega)
          rw [List.getElem?_eq_getElem (by rw [← HN.out]; omega)] at hy
          rw [List.getElem?_eq_getElem (by rw [← HN.out]; exact hlt)] at hz
          injection hy with hy
          injection hz with hz
          omega
        have hd : decide (z ≤ y) = false := decide_eq_false (by omega)
        have hl1 : ((q + 1 : Nat) : Int) < (N : Int) := by omega
        have aw1 : IntKind.i64.wrap (((q + 1 : Nat) : Int) - 1) = (q : Int) := by rw [IntWalk.i64_in _ (by omega)]; omega
        have aw2 : IntKind.i64.wrap (((q + 1 : Nat) : Int) + 1) = ((q + 1 + 1 : Nat) : Int) := by rw [IntWalk.i64_in _ (by omega)]; omega
        clear hy hz e
        go_wp2_with (fail)
        go_quiet (fail)
        go_wp2
        go_roundw
        case rel => exact ⟨q + 1, by omega, by go_num, HQ.out.drewN _⟩
        case measure => simp [intOf]; omega
      · have hl1 : ¬ ((q + 1 : Nat) : Int) < (N : Int) := by omega
        have hpp : Nums wp ap N cp ps := by rw [HN.out]; exact HP.out.nums
        have HPP := Lib.hid (hpp.later HQ.out)
        replace HX := Lib.hid (HX.out.later HQ.out)
        replace HY := Lib.hid (HY.out.later HQ.out)
        replace HO := Lib.hid (on_new HO.out HQ.out)
        clear hpp HP HA HT
        go_wp2_with (first
          | (go_at_call 11; (with_reducible refine (alive_c _).mono ?_); rintro e w20 ⟨rfl, ho⟩; (try replace HX := Lib.hid (HX.out.later ho)); (try replace HY := Lib.hid (HY.out.later ho)); (try replace HPP := Lib.hid (HPP.out.later ho)); (try replace HU := Lib.hid (HU.out.later ho)); (try replace HV := Lib.hid (HV.out.later ho)); (try replace HZ := Lib.hid (HZ.out.later ho)); (try replace HM := Lib.hid (HM.out.later ho)); replace HO := Lib.hid (on_new HO.out ho); clear ho)
          | (go_at_call 21; (with_reducible refine (old_v _ _ _ HX.out (by first | exact HXlen.out | decide)).mono ?_); rintro e wu ⟨⟨vu, rfl, h⟩, ho⟩; (try replace HX := Lib.hid (HX.out.later ho)); (try replace HY := Lib.hid (HY.out.later ho)); (try replace HPP := Lib.hid (HPP.out.later ho)); (try replace HU := Lib.hid (HU.out.later ho)); (try replace HV := Lib.hid (HV.out.later ho)); (try replace HZ := Lib.hid (HZ.out.later ho)); (try replace HM := Lib.hid (HM.out.later ho)); have HU := Lib.hid h; (try have HUlen := Lib.hid HXlen.out); (try have HUi := Lib.hid HXi.out); clear h; replace HO := Lib.hid (on_new HO.out ho); clear ho)
          | (go_at_call 21; (with_reducible refine (old_v _ _ _ HY.out (by first | exact HYlen.out | decide)).mono ?_); rintro e wv ⟨⟨vv, rfl, h⟩, ho⟩; (try replace HX := Lib.hid (HX.out.later ho)); (try replace HY := Lib.hid (HY.out.later ho)); (try replace HPP := Lib.hid (HPP.out.later ho)); (try replace HU := Lib.hid (HU.out.later ho)); (try replace HV := Lib.hid (HV.out.later ho)); (try replace HZ := Lib.hid (HZ.out.later ho)); (try replace HM := Lib.hid (HM.out.later ho)); have HV := Lib.hid h; (try have HVlen := Lib.hid HYlen.out); (try have HVi := Lib.hid HYi.out); clear h; replace HO := Lib.hid (on_new HO.out ho); clear ho)
          | (go_at_call 20; (with_reducible refine (Same_t _ _ _ _ _ HU.out HV.out rfl).mono ?_); rintro e w23 ⟨rfl, ho⟩; (try replace HX := Lib.hid (HX.out.later ho)); (try replace HY := Lib.hid (HY.out.later ho)); (try replace HPP := Lib.hid (HPP.out.later ho)); (try replace HU := Lib.hid (HU.out.later ho)); (try replace HV := Lib.hid (HV.out.later ho)); (try replace HZ := Lib.hid (HZ.out.later ho)); (try replace HM := Lib.hid (HM.out.later ho)); replace HO := Lib.hid (on_new HO.out ho); clear ho)
          | (go_at_call 15; (with_reducible refine (Right_t _ _ _ HX.out HLR.out).mono ?_); rintro e w24 ⟨rfl, ho⟩; (try replace HX := Lib.hid (HX.out.later ho)); (try replace HY := Lib.hid (HY.out.later ho)); (try replace HPP := Lib.hid (HPP.out.later ho)); (try replace HU := Lib.hid (HU.out.later ho)); (try replace HV := Lib.hid (HV.out.later ho)); (try replace HZ := Lib.hid (HZ.out.later ho)); (try replace HM := Lib.hid (HM.out.later ho)); replace HO := Lib.hid (on_new HO.out ho); clear ho)
          | (go_at_call 22; (with_reducible refine (Of_e _ _ _ _ _ _ HPP.out (by omega) HPI.out HUP.out).mono ?_); rintro e wz ⟨⟨vz, rfl, h⟩, ho⟩; (try replace HX := Lib.hid (HX.out.later ho)); (try replace HY := Lib.hid (HY.out.later ho)); (try replace HPP := Lib.hid (HPP.out.later ho)); (try replace HU := Lib.hid (HU.out.later ho)); (try replace HV := Lib.hid (HV.out.later ho)); (try replace HZ := Lib.hid (HZ.out.later ho)); (try replace HM := Lib.hid (HM.out.later ho)); have HZ := Lib.hid h; have HZlen := Lib.hid HLlen.out; have HZi := Lib.hid HLi.out; clear h; replace HO := Lib.hid (on_new HO.out ho); clear ho)
          | (go_at_call 21; (with_reducible refine (old_v _ _ _ HZ.out (by first | exact HZlen.out | decide)).mono ?_); rintro e wm ⟨⟨vm, rfl, h⟩, ho⟩; (try replace HX := Lib.hid (HX.out.later ho)); (try replace HY := Lib.hid (HY.out.later ho)); (try replace HPP := Lib.hid (HPP.out.later ho)); (try replace HU := Lib.hid (HU.out.later ho)); (try replace HV := Lib.hid (HV.out.later ho)); (try replace HZ := Lib.hid (HZ.out.later ho)); (try replace HM := Lib.hid (HM.out.later ho)); have HM := Lib.hid h; (try have HMlen := Lib.hid HZlen.out); (try have HMi := Lib.hid HZi.out); clear h; replace HO := Lib.hid (on_new HO.out ho); clear ho)
          | (go_at_call 20; (with_reducible refine (Same_t _ _ _ _ _ HM.out HU.out rfl).mono ?_); rintro e w27 ⟨rfl, ho⟩; (try replace HX := Lib.hid (HX.out.later ho)); (try replace HY := Lib.hid (HY.out.later ho)); (try replace HPP := Lib.hid (HPP.out.later ho)); (try replace HU := Lib.hid (HU.out.later ho)); (try replace HV := Lib.hid (HV.out.later ho)); (try replace HZ := Lib.hid (HZ.out.later ho)); (try replace HM := Lib.hid (HM.out.later ho)); replace HO := Lib.hid (on_new HO.out ho); clear ho))
        go_ret
        exact ⟨rfl, HO.out⟩
end Go.Proofs.Ytjnaejogclmooaa
