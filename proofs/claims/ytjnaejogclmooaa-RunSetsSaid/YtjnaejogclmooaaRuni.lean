/-
  RunUnions: the walk.
-/
import Derived.Test.YtjnaejogclmooaaLawc
set_option linter.unusedVariables false
namespace Go.Proofs.Ytjnaejogclmooaa
open Go.RowKit

theorem few_b (W : World) (v : Value) (l : List R) (b : Bool) (h : Row W v l) (e : b = short l) : Calls Try.prog 10 #[v] W (Told W (.bool b)) := by
  rw [e]; exact few_v W v l h
theorem Meet_b (W : World) (v u : Value) (a b : List R) (r : Bool) (h : Row W v a) (h' : Row W u b) (hra : ∀ x ∈ a, I64 x) (hrb : ∀ x ∈ b, I64 x) (e : r = true ↔ ∃ p, Mem a p ∧ Mem b p) : Calls Try.prog 28 #[v, u] W (Told W (.bool r)) :=
  (Meet_v W v u a b h h' hra hrb).mono fun e' w' ⟨⟨r', h1, h2⟩, h3⟩ => ⟨by rw [h1]; congr 2; rw [Bool.eq_iff_iff, h2, e], h3⟩

def mix (f g : Nat → Bool) (k q : Nat) : Bool := if q < k then f q || g q else f q
theorem mix_zero (f g : Nat → Bool) (m : Nat) : bf (mix f g 0) m = bf f m := bf_congr fun q _ => by simp [mix]
theorem mix_done (f g : Nat → Bool) (m : Nat) : bf (mix f g m) m = bf (fun q => f q || g q) m := bf_congr fun q h => by simp [mix, h]
theorem mix_step (f g : Nat → Bool) (m k : Nat) : (bf (mix f g k) m).set k (.bool (f k || g k)) = bf (mix f g (k + 1)) m := bf_set fun q _ => by
  unfold mix
  by_cases e : q = k
  · subst e; rw [if_pos (by omega), if_pos rfl]
  · rw [if_neg e]
    by_cases h : q < k
    · rw [if_pos h, if_pos (by omega)]
    · rw [if_neg h, if_neg (by omega)]
def Both (f g : Nat → Bool) (k : Nat) (b : Bool) : Prop := b = true ↔ ∃ q, q < k ∧ f q = true ∧ g q = true
theorem Both.step {f g : Nat → Bool} {k : Nat} {b : Bool} (h : Both f g k b) : Both f g (k + 1) (b || f k && g k) := by
  unfold Both at *
  rw [Bool.or_eq_true, Bool.and_eq_true, h]
  constructor
  · rintro (⟨q, h1, h2⟩ | h1)
    · exact ⟨q, by omega, h2⟩
    · exact ⟨k, by omega, h1⟩
  · rintro ⟨q, h1, h2⟩
    rcases (by omega : q < k ∨ q = k) with h | rfl
    · exact .inl ⟨q, h, h2⟩
    · exact .inr h2
theorem both_mem {a b : List R} {r : Bool} (ha : short a = true) (h : Both (setOf a) (setOf b) 600 r) : r = true ↔ ∃ p, Mem a p ∧ Mem b p := by
  unfold Both at h
  rw [h]
  constructor
  · rintro ⟨q, _, h1, h2⟩
    exact ⟨q, h1, h2⟩
  · rintro ⟨p, h1, h2⟩
    have := mem_range ha h1
    have e : ((p.toNat : Nat) : Int) = p := by omega
    exact ⟨p.toNat, by omega, (setOf_iff _ _).2 (by rwa [e]), (setOf_iff _ _).2 (by rwa [e])⟩

set_option maxRecDepth 100000 in
set_option maxHeartbeats 6400000 in
theorem unions_walk (w : World) (v u : Value) (a b : List R) (h : Row w v a) (h' : Row w u b) (hra : ∀ x ∈ a, I64 x) (hrb : ∀ x ∈ b, I64 x) :
    Calls Try.prog 5 #[v, u] w (Told w (.bool true)) := by
  have HO : Hid (Only (w.heap.size ≤ ·) w w) := Only.refl _ w
  have HA := Lib.hid h
  have HB := Lib.hid h'
  have HA0 := Lib.hid h
  have HB0 := Lib.hid h'
  have HAi := Lib.hid hra
  have HBi := Lib.hid hrb
  obtain ⟨sa, hsa⟩ : ∃ s, s = short a := ⟨_, rfl⟩
  obtain ⟨sb, hsb⟩ : ∃ s, s = short b := ⟨_, rfl⟩
  have HSA := Lib.hid hsa
  have HSB := Lib.hid hsb
  clear h h' hra hrb hsa hsb
  cases sa
  · go_enter Try.func5, Try.ntmps5
    go_wp2_with (first
      | (go_at_call 10; (with_reducible refine (few_b _ _ _ _ HA.out HSA.out).mono ?_); rintro e w1 ⟨rfl, ho⟩; (try replace HA := Lib.hid (HA.out.later ho)); (try replace HB := Lib.hid (HB.out.later ho)); replace HO := Lib.hid (on_new HO.out ho); clear ho)
      | (go_at_call 11; (with_reducible refine (alive_c _).mono ?_); rintro e w2 ⟨rfl, ho⟩; (try replace HA := Lib.hid (HA.out.later ho)); (try replace HB := Lib.hid (HB.out.later ho)); replace HO := Lib.hid (on_new HO.out ho); clear ho))
    go_ret
    exact ⟨rfl, HO.out⟩
  cases sb
  · go_enter Try.func5, Try.ntmps5
    go_wp2_with (first
      | (go_at_call 10; (with_reducible refine (few_b _ _ _ _ HA.out HSA.out).mono ?_); rintro e w1 ⟨rfl, ho⟩; (try replace HA := Lib.hid (HA.out.later ho)); (try replace HB := Lib.hid (HB.out.later ho)); replace HO := Lib.hid (on_new HO.out ho); clear ho)
      | (go_at_call 10; (with_reducible refine (few_b _ _ _ _ HB.out HSB.out).mono ?_); rintro e w2 ⟨rfl, ho⟩; (try replace HA := Lib.hid (HA.out.later ho)); (try replace HB := Lib.hid (HB.out.later ho)); replace HO := Lib.hid (on_new HO.out ho); clear ho)
      | (go_at_call 11; (with_reducible refine (alive_c _).mono ?_); rintro e w3 ⟨rfl, ho⟩; (try replace HA := Lib.hid (HA.out.later ho)); (try replace HB := Lib.hid (HB.out.later ho)); replace HO := Lib.hid (on_new HO.out ho); clear ho))
    go_ret
    exact ⟨rfl, HO.out⟩
  have HAlen : Hid (a.length ≤ 1000000) := Nat.le_trans (short_iff HSA.out.symm).1 (by decide)
  have HBlen : Hid (b.length ≤ 1000000) := Nat.le_trans (short_iff HSB.out.symm).1 (by decide)
  obtain ⟨f, hf⟩ : ∃ f, f = setOf a := ⟨_, rfl⟩
  obtain ⟨g, hg⟩ : ∃ g, g = setOf b := ⟨_, rfl⟩
  have HF : Hid (f = setOf a ∧ g = setOf b) := ⟨hf, hg⟩
  clear hf hg
  go_enter Try.func5, Try.ntmps5
  go_wp2_with (first
    | (go_at_call 10; (with_reducible refine (few_b _ _ _ _ HA.out HSA.out).mono ?_); rintro e w1 ⟨rfl, ho⟩; (try replace HA := Lib.hid (HA.out.later ho)); (try replace HB := Lib.hid (HB.out.later ho)); (try replace HS := Lib.hid (HS.out.later ho)); (try replace HT := Lib.hid (HT.out.later ho)); replace HO := Lib.hid (on_new HO.out ho); clear ho)
    | (go_at_call 10; (with_reducible refine (few_b _ _ _ _ HB.out HSB.out).mono ?_); rintro e w2 ⟨rfl, ho⟩; (try replace HA := Lib.hid (HA.out.later ho)); (try replace HB := Lib.hid (HB.out.later ho)); (try replace HS := Lib.hid (HS.out.later ho)); (try replace HT := Lib.hid (HT.out.later ho)); replace HO := Lib.hid (on_new HO.out ho); clear ho)
    | (go_at_call 12; (with_reducible refine (Set_v _ _ _ HA.out HAi.out).mono ?_); rintro e w3 ⟨gs, rfl, hg, h, ho⟩; (try replace HA := Lib.hid (HA.out.later ho)); (try replace HB := Lib.hid (HB.out.later ho)); (try replace HS := Lib.hid (HS.out.later ho)); (try replace HT := Lib.hid (HT.out.later ho)); have HS := Lib.hid h; have HSg := Lib.hid (Nat.le_trans HO.out.size hg); have HSlt := Lib.hid (And.intro hg h.lt); clear hg; clear h; replace HO := Lib.hid (on_new HO.out ho); clear ho)
    | (go_at_call 12; (with_reducible refine (Set_v _ _ _ HB.out HBi.out).mono ?_); rintro e w4 ⟨gt, rfl, hg, h, ho⟩; have HNE : Hid (gs ≠ gt) := (fun e => absurd HS.out.lt (by rw [e]; exact Nat.not_lt.2 hg)); (try replace HA := Lib.hid (HA.out.later ho)); (try replace HB := Lib.hid (HB.out.later ho)); (try replace HS := Lib.hid (HS.out.later ho)); (try replace HT := Lib.hid (HT.out.later ho)); have HT := Lib.hid h; have HTg := Lib.hid (Nat.le_trans HO.out.size hg); have HTlt := Lib.hid (And.intro hg h.lt); clear hg; clear h; replace HO := Lib.hid (on_new HO.out ho); clear ho))
  rw [← HF.out.1] at HS
  rw [← HF.out.2] at HT
  have hne : gs ≠ gt := fun e => HNE.out e
  go_loopw [7, 25] (fun s i wr => ∃ (k : Nat) (r : Bool), k ≤ 600 ∧ s = .bool r ∧ i = .int .i64 k ∧ Both f g k r ∧ Blk wr gs 4 (bf (mix f g k) 600) ∧ Blk wr gt 4 (bf g 600) ∧ Only (w.heap.size ≤ ·) w wr) (fun _ i _ => 600 - (intOf i).toNat)
  case atStart => exact ⟨0, false, by decide, rfl, rfl, by unfold Both; simp, by rw [mix_zero]; exact HS.out, HT.out, HO.out⟩
  case round =>
    obtain ⟨k, r, hk, rfl, rfl, hbo, hbs, hbt, ho⟩ := hrel
    clear HO HA HB HS HT
    have HO := Lib.hid ho
    have HS := Lib.hid hbs
    have HT := Lib.hid hbt
    have HBO := Lib.hid hbo
    clear ho hbs hbt hbo
    by_cases hlt : k < 600
    · have hk0 : (0 : Int) ≤ (k : Int) := by omega
      have hk6 : (k : Int) < 600 := by omega
      have hfz := HS.out.frozen k
      have hq1 : wr.cell? ⟨gs, k, none⟩ = some (.bool (f k)) := by rw [HS.out.cell, bf_get _ hlt]; simp [mix]
      have hq2 : wr.cell? ⟨gt, k, none⟩ = some (.bool (g k)) := by rw [HT.out.cell, bf_get _ hlt]
      have HN : Hid (∀ o, o = (f k || g k) → Blk (wr.setCell ⟨gs, k, none⟩ (.bool o)) gs 4 (bf (mix f g (k + 1)) 600)) := fun o e => by
        have := HS.out.set_ k (.bool o)
        subst e; rwa [mix_step] at this
      have HN2 : Hid (∀ o : Bool, Blk (wr.setCell ⟨gs, k, none⟩ (.bool o)) gt 4 (bf g 600)) := fun o => HT.out.far (p := ⟨gs, k, none⟩) (Ne.symm hne) _
      have HN3 : Hid (∀ o : Bool, Only (w.heap.size ≤ ·) w (wr.setCell ⟨gs, k, none⟩ (.bool o))) := fun o => HO.out.setCell (p := ⟨gs, k, none⟩) HSg.out _
      have HBN : Hid (∀ o, o = (r || f k && g k) → Both f g (k + 1) o) := fun o e => by rw [e]; exact HBO.out.step
      obtain ⟨fk, hfk⟩ : ∃ x, x = f k := ⟨_, rfl⟩
      obtain ⟨gk, hgk⟩ : ∃ x, x = g k := ⟨_, rfl⟩
      rw [← hfk] at hq1 HN HBN
      rw [← hgk] at hq2 HN HBN
      clear hfk hgk HBO
      cases r <;> cases fk <;> cases gk
      all_goals
        go_wp2
        go_roundw
        case rel => exact ⟨k + 1, _, by omega, rfl, by go_num, HBN.out _ rfl, HN.out _ rfl, HN2.out _, HN3.out _⟩
        case measure => simp [intOf]; omega
    · obtain rfl : k = 600 := by omega
      have HS' : Hid (Blk wr gs 4 (bf (fun q => f q || g q) 600)) := by rw [← mix_done]; exact HS.out
      clear HS
      have HS := Lib.hid HS'.out
      have HA := Lib.hid (HA0.out.later HO.out)
      have HB := Lib.hid (HB0.out.later HO.out)
      have HM : Hid (r = true ↔ ∃ p, Mem a p ∧ Mem b p) := both_mem HSA.out.symm (by rw [← HF.out.1, ← HF.out.2]; exact HBO.out)
      have HE : Hid (∀ u, IsRow u (fun p => Mem a p ∨ Mem b p) → u = runsOf (fun q => f q || g q) 600) := fun u hu => runs_eq (fun q _ => by rw [Bool.or_eq_true, HF.out.1, HF.out.2]; exact Iff.rfl) (fun p hp => hp.elim (mem_range HSA.out.symm) (mem_range HSB.out.symm)) hu
      clear HS' HT HBO HA0 HB0
      go_wp2_with (first
        | (go_at_call 14; (with_reducible refine (of_v _ _ _ HA.out (by first | exact HAlen.out | decide)).mono ?_); rintro e w20 ⟨⟨vx, rfl, h⟩, ho⟩; (try replace HA := Lib.hid (HA.out.later ho)); (try replace HB := Lib.hid (HB.out.later ho)); (try replace HS := Lib.hid (HS.out.later ho)); (try replace HX := Lib.hid (HX.out.later ho)); (try replace HY := Lib.hid (HY.out.later ho)); (try replace HU := Lib.hid (HU.out.later ho)); (try replace HP := Lib.hid (HP.out.later ho)); (try replace HQ := Lib.hid (HQ.out.later ho)); (try replace HV := Lib.hid (HV.out.later ho)); (try replace HZ := Lib.hid (HZ.out.later ho)); have HX := Lib.hid h; (try have HXlen := Lib.hid HAlen.out); (try have HXi := Lib.hid HAi.out); clear h; replace HO := Lib.hid (on_new HO.out ho); clear ho)
        | (go_at_call 14; (with_reducible refine (of_v _ _ _ HB.out (by first | exact HBlen.out | decide)).mono ?_); rintro e w21 ⟨⟨vy, rfl, h⟩, ho⟩; (try replace HA := Lib.hid (HA.out.later ho)); (try replace HB := Lib.hid (HB.out.later ho)); (try replace HS := Lib.hid (HS.out.later ho)); (try replace HX := Lib.hid (HX.out.later ho)); (try replace HY := Lib.hid (HY.out.later ho)); (try replace HU := Lib.hid (HU.out.later ho)); (try replace HP := Lib.hid (HP.out.later ho)); (try replace HQ := Lib.hid (HQ.out.later ho)); (try replace HV := Lib.hid (HV.out.later ho)); (try replace HZ := Lib.hid (HZ.out.later ho)); have HY := Lib.hid h; (try have HYlen := Lib.hid HBlen.out); (try have HYi := Lib.hid HBi.out); clear h; replace HO := Lib.hid (on_new HO.out ho); clear ho)
        | (go_at_call 27; (with_reducible refine (Union_v _ _ _ _ _ HX.out HY.out HXi.out HYi.out).mono ?_); rintro e w22 ⟨⟨vu, lu, rfl, h, hu⟩, ho⟩; (try replace HA := Lib.hid (HA.out.later ho)); (try replace HB := Lib.hid (HB.out.later ho)); (try replace HS := Lib.hid (HS.out.later ho)); (try replace HX := Lib.hid (HX.out.later ho)); (try replace HY := Lib.hid (HY.out.later ho)); (try replace HU := Lib.hid (HU.out.later ho)); (try replace HP := Lib.hid (HP.out.later ho)); (try replace HQ := Lib.hid (HQ.out.later ho)); (try replace HV := Lib.hid (HV.out.later ho)); (try replace HZ := Lib.hid (HZ.out.later ho)); have HU := Lib.hid h; have HUu := Lib.hid hu; have HUlen := Lib.hid (row_len hu); have HUi := Lib.hid (i64_of hu.1); clear hu; clear h; replace HO := Lib.hid (on_new HO.out ho); clear ho)
        | (go_at_call 11; (with_reducible refine (alive_c _).mono ?_); rintro e w23 ⟨rfl, ho⟩; (try replace HA := Lib.hid (HA.out.later ho)); (try replace HB := Lib.hid (HB.out.later ho)); (try replace HS := Lib.hid (HS.out.later ho)); (try replace HX := Lib.hid (HX.out.later ho)); (try replace HY := Lib.hid (HY.out.later ho)); (try replace HU := Lib.hid (HU.out.later ho)); (try replace HP := Lib.hid (HP.out.later ho)); (try replace HQ := Lib.hid (HQ.out.later ho)); (try replace HV := Lib.hid (HV.out.later ho)); (try replace HZ := Lib.hid (HZ.out.later ho)); replace HO := Lib.hid (on_new HO.out ho); clear ho)
        | (go_at_call 21; (with_reducible refine (old_v _ _ _ HU.out (by first | exact HUlen.out | decide)).mono ?_); rintro e w24 ⟨⟨vp, rfl, h⟩, ho⟩; (try replace HA := Lib.hid (HA.out.later ho)); (try replace HB := Lib.hid (HB.out.later ho)); (try replace HS := Lib.hid (HS.out.later ho)); (try replace HX := Lib.hid (HX.out.later ho)); (try replace HY := Lib.hid (HY.out.later ho)); (try replace HU := Lib.hid (HU.out.later ho)); (try replace HP := Lib.hid (HP.out.later ho)); (try replace HQ := Lib.hid (HQ.out.later ho)); (try replace HV := Lib.hid (HV.out.later ho)); (try replace HZ := Lib.hid (HZ.out.later ho)); have HP := Lib.hid h; (try have HPlen := Lib.hid HUlen.out); (try have HPi := Lib.hid HUi.out); clear h; replace HO := Lib.hid (on_new HO.out ho); clear ho)
        | (go_at_call 23; (with_reducible refine (Runs_v _ _ _ HS.out).mono ?_); rintro e w25 ⟨⟨vq, rfl, h⟩, ho⟩; (try replace HA := Lib.hid (HA.out.later ho)); (try replace HB := Lib.hid (HB.out.later ho)); (try replace HS := Lib.hid (HS.out.later ho)); (try replace HX := Lib.hid (HX.out.later ho)); (try replace HY := Lib.hid (HY.out.later ho)); (try replace HU := Lib.hid (HU.out.later ho)); (try replace HP := Lib.hid (HP.out.later ho)); (try replace HQ := Lib.hid (HQ.out.later ho)); (try replace HV := Lib.hid (HV.out.later ho)); (try replace HZ := Lib.hid (HZ.out.later ho)); have HQ := Lib.hid h; clear h; replace HO := Lib.hid (on_new HO.out ho); clear ho)
        | (go_at_call 20; (with_reducible refine (Same_t _ _ _ _ _ HP.out HQ.out (HE.out _ HUu.out)).mono ?_); rintro e w26 ⟨rfl, ho⟩; (try replace HA := Lib.hid (HA.out.later ho)); (try replace HB := Lib.hid (HB.out.later ho)); (try replace HS := Lib.hid (HS.out.later ho)); (try replace HX := Lib.hid (HX.out.later ho)); (try replace HY := Lib.hid (HY.out.later ho)); (try replace HU := Lib.hid (HU.out.later ho)); (try replace HP := Lib.hid (HP.out.later ho)); (try replace HQ := Lib.hid (HQ.out.later ho)); (try replace HV := Lib.hid (HV.out.later ho)); (try replace HZ := Lib.hid (HZ.out.later ho)); replace HO := Lib.hid (on_new HO.out ho); clear ho)
        | (go_at_call 28; (with_reducible refine (Meet_b _ _ _ _ _ _ HX.out HY.out HXi.out HYi.out HM.out).mono ?_); rintro e w27 ⟨rfl, ho⟩; (try replace HA := Lib.hid (HA.out.later ho)); (try replace HB := Lib.hid (HB.out.later ho)); (try replace HS := Lib.hid (HS.out.later ho)); (try replace HX := Lib.hid (HX.out.later ho)); (try replace HY := Lib.hid (HY.out.later ho)); (try replace HU := Lib.hid (HU.out.later ho)); (try replace HP := Lib.hid (HP.out.later ho)); (try replace HQ := Lib.hid (HQ.out.later ho)); (try replace HV := Lib.hid (HV.out.later ho)); (try replace HZ := Lib.hid (HZ.out.later ho)); replace HO := Lib.hid (on_new HO.out ho); clear ho)
        | (go_at_call 27; (with_reducible refine (Union_v _ _ _ _ _ HY.out HX.out HYi.out HXi.out).mono ?_); rintro e w28 ⟨⟨vv, lv, rfl, h, hu⟩, ho⟩; (try replace HA := Lib.hid (HA.out.later ho)); (try replace HB := Lib.hid (HB.out.later ho)); (try replace HS := Lib.hid (HS.out.later ho)); (try replace HX := Lib.hid (HX.out.later ho)); (try replace HY := Lib.hid (HY.out.later ho)); (try replace HU := Lib.hid (HU.out.later ho)); (try replace HP := Lib.hid (HP.out.later ho)); (try replace HQ := Lib.hid (HQ.out.later ho)); (try replace HV := Lib.hid (HV.out.later ho)); (try replace HZ := Lib.hid (HZ.out.later ho)); have HV := Lib.hid h; have HVu := Lib.hid hu; have HVlen := Lib.hid (row_len hu); have HVi := Lib.hid (i64_of hu.1); clear hu; clear h; replace HO := Lib.hid (on_new HO.out ho); clear ho)
        | (go_at_call 21; (with_reducible refine (old_v _ _ _ HV.out (by first | exact HVlen.out | decide)).mono ?_); rintro e w29 ⟨⟨vz, rfl, h⟩, ho⟩; (try replace HA := Lib.hid (HA.out.later ho)); (try replace HB := Lib.hid (HB.out.later ho)); (try replace HS := Lib.hid (HS.out.later ho)); (try replace HX := Lib.hid (HX.out.later ho)); (try replace HY := Lib.hid (HY.out.later ho)); (try replace HU := Lib.hid (HU.out.later ho)); (try replace HP := Lib.hid (HP.out.later ho)); (try replace HQ := Lib.hid (HQ.out.later ho)); (try replace HV := Lib.hid (HV.out.later ho)); (try replace HZ := Lib.hid (HZ.out.later ho)); have HZ := Lib.hid h; (try have HZlen := Lib.hid HVlen.out); (try have HZi := Lib.hid HVi.out); clear h; replace HO := Lib.hid (on_new HO.out ho); clear ho)
        | (go_at_call 20; (with_reducible refine (Same_t _ _ _ _ _ HZ.out HP.out (HVu.out.eq (HUu.out.congr fun p => Or.comm))).mono ?_); rintro e w30 ⟨rfl, ho⟩; (try replace HA := Lib.hid (HA.out.later ho)); (try replace HB := Lib.hid (HB.out.later ho)); (try replace HS := Lib.hid (HS.out.later ho)); (try replace HX := Lib.hid (HX.out.later ho)); (try replace HY := Lib.hid (HY.out.later ho)); (try replace HU := Lib.hid (HU.out.later ho)); (try replace HP := Lib.hid (HP.out.later ho)); (try replace HQ := Lib.hid (HQ.out.later ho)); (try replace HV := Lib.hid (HV.out.later ho)); (try replace HZ := Lib.hid (HZ.out.later ho)); replace HO := Lib.hid (on_new HO.out ho); clear ho))
      go_ret
      exact ⟨rfl, HO.out⟩
end Go.Proofs.Ytjnaejogclmooaa
