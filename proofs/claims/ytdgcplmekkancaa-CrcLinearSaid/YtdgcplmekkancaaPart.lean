/-
  CrcParts: the walk.
-/
import Derived.Test.YtdgcplmekkancaaAliv
set_option linter.unusedVariables false
namespace Go.Proofs.Ytdgcplmekkancaa
open Go.RowKit

/-- A slice of bytes in memory. -/
structure Pt where
  A : Option Addr
  n : Nat
  c : Nat
  xs : Bytes
structure Pt.Ok (w : World) (p : Pt) : Prop where
  txt : Txt w p.A p.n p.xs
  le : p.n ≤ p.c
  max : p.c ≤ 1099511627776 * 1024
  nil : p.A = none → p.n = 0 ∧ p.c = 0
def Pts (w : World) (A : Option Addr) (m : Nat) (l : List Pt) : Prop :=
  l.length = m ∧ (∀ p ∈ l, p.Ok w) ∧ (0 < m → ∃ ad, A = some ad ∧ ad.block < w.heap.size ∧ ∀ i p, l[i]? = some p → w.cell? (ad.add i) = some (.slice p.A p.n p.c))
def cat (l : List Pt) : Bytes := l.flatMap (·.xs)
theorem cat_snoc (l : List Pt) (i : Nat) (p : Pt) (h : l[i]? = some p) : cat (l.take (i + 1)) = cat (l.take i) ++ p.xs := by
  rw [List.take_add_one, h]
  simp [cat]

theorem ownsRow_later {w w' : World} {B n : Nat} {v : Value} {xs : List Value} (h : w.ownsRow B 5 1 v n xs) (ho : Only (w.heap.size ≤ ·) w w') : w'.ownsRow B 5 1 v n xs := by
  refine ⟨h.1, ?_⟩
  rcases h.2 with h' | ⟨g, cap, cur, hv, hb, hg, r⟩
  · exact .inl h'
  · have hlt : g < w.heap.size := (Array.getElem?_eq_some_iff.1 hg).1
    exact .inr ⟨g, cap, cur, hv, hb, (ho.block g (by omega)).trans hg, r⟩

set_option maxRecDepth 100000 in
set_option maxHeartbeats 1600000 in
theorem parts_walk (w : World) (A : Option Addr) (m c : Nat) (l : List Pt) (hl : Pts w A m l) (hm : m ≤ 1099511627776 * 1024) :
    Calls Try.prog 4 #[.slice A m c] w fun e w' => e = .returned (.bool true) ∧ Only (w.heap.size ≤ ·) w w' := by
  obtain ⟨i0, hi0, hz0, hz1, hz2⟩ := info_parts info5
  have HI := Lib.hid (And.intro hi0 (And.intro hz0 (And.intro hz1 hz2)))
  clear hi0 hz0 hz1 hz2
  have HP := Lib.hid hl
  clear hl
  go_enter Try.func4, Try.ntmps4
  go_wp2_with (fail)
  go_loopw [9, 3, 4] (fun i v s wr => ∃ k N : Nat, k ≤ m ∧ N ≤ 600 ∧ i = .int .i64 k ∧ s = .int .u32 (sum (cat (l.take k)) : Nat) ∧ Byt w wr v N (cat (l.take k))) (fun i _ _ _ => m - (intOf i).toNat)
  case atStart => exact ⟨0, 0, Nat.zero_le _, by omega, rfl, by rw [show cat (l.take 0) = [] from rfl, sum_nil]; rfl, rfl, World.ownsRow_nil _ _ _ _, Only.refl _ _⟩
  case round =>
    obtain ⟨k, N, hk, hN, rfl, rfl, hb⟩ := hrel
    have HB := Lib.hid hb
    obtain ⟨A3, c3, rfl, ht3, ha3, hc3, hm3, hb3⟩ := txt_of_own hb.2.1
    have HT3 := Lib.hid ht3
    clear hb ht3 ha3 hb3
    by_cases hlt : k < m
    · have k1 : (k : Int) < (m : Int) := by omega
      obtain ⟨ad, rfl, had, hcell⟩ := HP.out.2.2 (by omega)
      obtain ⟨p, hp⟩ : ∃ p, l[k]? = some p := ⟨_, List.getElem?_eq_getElem (by have := HP.out.1; omega)⟩
      have hok := HP.out.2.1 p (List.mem_of_getElem? hp)
      have hcp : wr.cell? (ad.add k) = some (.slice p.A p.n p.c) := (HB.out.2.2.cell (by rw [add_block']; omega)).trans (hcell k p hp)
      have HS := Lib.hid (cat_snoc l k p hp)
      clear hcell hp
      obtain ⟨Ap, np, cp, xp⟩ := p
      obtain ⟨htp, hle, hmx, hnil⟩ := hok
      simp only at hcp HS htp hle hmx hnil
      obtain ⟨C, hC⟩ : ∃ C, C = cat (l.take k) := ⟨_, rfl⟩
      obtain ⟨C', hC'⟩ : ∃ C', C' = cat (l.take (k + 1)) := ⟨_, rfl⟩
      rw [← hC] at HB HT3 HS ⊢
      rw [← hC'] at HS
      have HC' := Lib.hid hC'
      have HTp := Lib.hid htp
      have Hnil := Lib.hid hnil
      have hw : IntKind.i64.wrap ((N : Int) + (np : Int)) = (N : Int) + (np : Int) := IntWalk.i64_in _ (by omega)
      clear hC hC' htp hnil
      by_cases h6 : 600 < N + np
      · have h7 : (600 : Int) < (N : Int) + (np : Int) := by omega
        go_wp2_with (first | (go_at_call 8; refine (alive_c _).mono ?_; rintro e w1 ⟨rfl, ho1⟩))
        go_ret
        exact ⟨rfl, HB.out.2.2.trans (ho1.mono fun k h => Nat.le_trans HB.out.2.2.size h)⟩
      · have h7 : ¬ ((600 : Int) < (N : Int) + (np : Int)) := by omega
        have Hxl : Hid ((cb xp).length = np * 1) := by show _ = _; rw [cb_length, HTp.out.1, Nat.mul_one]
        have HCp : Hid (∀ ad, Ap = some ad → ∀ j u, (cb xp)[j]? = some u → wr.cell? (ad.add j) = some u) := by
          intro ad e j u hu
          have hj : j < (cb xp).length := (List.getElem?_eq_some_iff.1 hu).1
          rw [cb_length, HTp.out.1] at hj
          obtain ⟨ad', e', hc⟩ := (HTp.out.later HB.out.2.2).2 (by omega)
          rw [e] at e'
          cases e'
          exact hc j u hu
        have HSl : Hid (sum C < 4294967296) := sum_lt _
        go_wp2_with (first | (at_builtin; refine wpList_append_src _ rfl (.tmp 20) (.tmp 21) 22 rfl w.heap.size 5 i0 _ 1 1 Try.underlying22 HI.out.1 HI.out.2.1 HI.out.2.2.1 HI.out.2.2.2 (by rfl) (by omega) _ N _ rfl HB.out.2.1 Ap np cp (cb xp) rfl Hnil.out Hxl.out HCp.out (cb_one _) (by simp only [maxLen]; omega) (by omega) HB.out.2.2.size ?_; intro v' w1 ho' hg'; have HB1 : Hid (Byt w w1 v' (N + np) C') := ⟨by rw [HS.out, List.length_append, HB.out.1, HTp.out.1], by rw [HS.out, cb_append]; exact ho', HB.out.2.2.grown hg' (fun _ h => h) (fun g hg => (HB.out.2.1.lt g hg).1)⟩; clear ho' hg') | (go_at_call 11; refine (Update_c _ _ HSl.out Ap np cp xp (HTp.out.later HB1.out.2.2) (by omega)).mono ?_; rintro e w2 ⟨rfl, ho2⟩))
        have HB2 : Hid (Byt w w2 v' (N + np) C') := by
          have hs := HB1.out.2.2.size
          exact ⟨HB1.out.1, ownsRow_later HB1.out.2.1 ho2, HB1.out.2.2.trans (ho2.mono fun k h => Nat.le_trans hs h)⟩
        have HE : Hid (upd (sum C) xp = sum C') := by show _ = _; rw [HS.out]; exact (upd_append 0 C xp).symm
        refine ⟨⟨k + 1, N + np, by omega, by omega, by go_num, by rw [HE.out, HC'.out], by rw [← HC'.out]; exact HB2.out⟩, ?_⟩
        simp [intOf]
        omega
    · obtain rfl : k = m := by omega
      have hkm : ¬ (k : Int) < (k : Int) := by omega
      rw [List.take_of_length_le (by have := HP.out.1; omega)] at HB HT3 ⊢
      have hN6 : N ≤ 65536 := by omega
      have hN7 : N ≤ 1152921504606846976 := by omega
      go_wp2_with (first | (go_at_call 8; refine (alive_c _).mono ?_; rintro e w1 ⟨rfl, ho1⟩; have HO1 := Lib.hid ho1; clear ho1) | (go_at_call 10; refine (refOf_c _ A3 N c3 _ (HT3.out.later HO1.out) hN6).mono ?_; rintro e w3 ⟨rfl, ho3⟩; have HO2 : Hid (Only (wr.heap.size ≤ ·) wr w3) := HO1.out.trans (ho3.mono fun k h => Nat.le_trans HO1.out.size h); clear ho3) | (go_at_call 9; refine (Of_c _ A3 N c3 _ (HT3.out.later HO2.out) hN7).mono ?_; rintro e w4 ⟨rfl, ho4⟩; have HO3 : Hid (Only (wr.heap.size ≤ ·) wr w4) := HO2.out.trans (ho4.mono fun k h => Nat.le_trans HO2.out.size h); clear ho4))
      go_ret
      exact ⟨rfl, HB.out.2.2.trans (HO3.out.mono fun k h => Nat.le_trans HB.out.2.2.size h)⟩
end Go.Proofs.Ytdgcplmekkancaa
