/-
  slices.Clone, slices.Grow of nil, slices.Concat of two rows.
-/
import Derived.Test.YtmadlckladohbaaGreatLay
import Derived.Test.YtmadlckladohbaaGreatShelf
import Derived.Laws.AppendOwnNone
import Derived.Shelf.Spec.SlicesGrow
set_option linter.unusedVariables false
namespace Go.Proofs.YtmadlckladohbaaGreat
open Go.RowKit

theorem wpList_append_src {P : Program} (w : World) {ops : Array Oper} {rest : List Oper} {o : Oper} {a : Act} {Q : Exit → Act → World → Prop} (hgd : o.guard = none) (s x : Operand) (t : TypeId)
    (ho : o.op = .call { callee := .builtin .append, args := #[s, x], argTypes := #[t, t] })
    (base : Nat) (e : TypeId) (i : TypeInfo) (z : Value) (size bytes : Nat) (ht : P.underlying t = some (.slice e)) (hi : P.info? e = some i) (hz : i.zero = some z)
    (hsize : i.size = size) (hby : i.bytes = bytes) (hzs : z.cells.size = size) (hsz : 0 < size)
    (v : Value) (n : Nat) (xs : List Value) (hs : a.eval s = v) (hown : w.ownsRow base e size v n xs)
    (A : Option Addr) (m c : Nat) (news : List Value) (hx : a.eval x = .slice A m c) (hnone : A = none → m = 0 ∧ c = 0) (hl : news.length = m * size) (hnews : ∀ ad, A = some ad → ∀ j u, news[j]? = some u → w.cell? (ad.add j) = some u) (h1 : ∀ u ∈ news, u.oneCell' = true)
    (h63 : n + m ≤ maxLen) (hbytes : (n + m) * bytes ≤ 140737488355328) (hbase : base ≤ w.heap.size)
    (h : ∀ v' w', w'.ownsRow base e size v' (n + m) (xs ++ news) → w.grownBy w' v.ownBlock → wpList P ops Q rest (a.put o.dst v') w') : wpList P ops Q (o :: rest) a w := by
  cases A with
  | some ad => exact wpList_append_own w hgd s x t ho base e i z size bytes ht hi hz hsize hby hzs hsz v n xs hs hown ad m c news hx hl (hnews ad rfl) h1 h63 hbytes hbase fun v' w' h2 h3 _ => h v' w' h2 h3
  | none =>
    obtain ⟨rfl, rfl⟩ := hnone rfl
    obtain rfl : news = [] := List.eq_nil_of_length_eq_zero (by simpa using hl)
    refine wpList_append_own_none hgd s x t ho base e i size ht hi v n xs hs hown hx ?_
    have h' := h v w (by simpa using hown) (World.grownBy.refl w _)
    exact h'


def Owns (w : World) (l : List R) (e : Ending) (w' : World) : Prop := ∃ v n, e = .returned v ∧ OwnN w' w.heap.size v n l ∧ Only (w.heap.size ≤ ·) w w'

set_option maxRecDepth 100000 in
set_option maxHeartbeats 1600000 in
theorem Clone_c (w : World) (v : Value) (l : List R) (h : Row w v l) (hn : l.length ≤ 1000000) :
    Calls Tryz.prog 27 #[v] w (Owns w l) := by
  obtain ⟨i0, hi0, hz0, hz1, hz2⟩ := info_parts infoRun
  have HI := Lib.hid (And.intro hi0 (And.intro hz0 (And.intro hz1 hz2)))
  clear hi0 hz0 hz1 hz2
  have hnil := fun (W : World) (a : Option Addr) (n c : Nat) => Lib.run_eql_slice_nil (P := Tryz.prog) W 33 54 a n c 0 0 Tryz.underlying33
  obtain ⟨A, c, rfl, ht, hA, hc, hm⟩ := h
  obtain ⟨n, hne⟩ : ∃ n, n = l.length := ⟨_, rfl⟩
  have HN := Lib.hid hne
  rw [← hne] at hc hn ⊢
  cases A with
  | none =>
    obtain rfl := hA rfl
    obtain rfl : n = 0 := by omega
    obtain rfl : l = [] := List.eq_nil_of_length_eq_zero HN.out.symm
    clear hne ht
    go_enter Tryz.func27, Tryz.ntmps27
    go_wp2
    go_ret
    exact ⟨_, 0, rfl, ⟨rfl, World.ownsRow_nil _ _ _ _⟩, Only.refl _ _⟩
  | some ad =>
    have Ho : Hid ((w.alloc (.cells #[] 54)).ownsRow w.heap.size 54 2 (.slice (some ⟨w.heap.size, 0, none⟩) 0 0) 0 []) := World.ownsRow_made (size := 2) (base := w.heap.size) (e := 54) w #[] 0 (Nat.le_refl _) (by simp [maxLen]) (by simp)
    have Hc : Hid (∀ j u, (rc l)[j]? = some u → (w.alloc (.cells #[] 54)).cell? (ad.add j) = some u) := fun j u hu => (ht.later ((Only.refl _ w).alloc (fun _ h => h) _)).src ad rfl j u hu
    have Hl : Hid ((rc l).length = n * 2) := by show _ = _; rw [rc_length, ← hne]
    clear ht hA hne
    go_enter Tryz.func27, Tryz.ntmps27
    go_wp2_with (at_builtin; refine wpList_append_own _ rfl (.tmp 5) (.tmp 6) 33 rfl w.heap.size 54 i0 z2 2 16 Tryz.underlying33 HI.out.1 HI.out.2.1 HI.out.2.2.1 HI.out.2.2.2 (by rfl) (by omega) _ _ _ rfl Ho.out ad n c (rc l) rfl Hl.out Hc.out (rc_one _) (by simp only [maxLen]; omega) (by omega) (by simp) ?_; intro v' w' ho' hg' _; have HN' := Lib.hid ho'; have HO' := Lib.hid (((Only.refl _ w).alloc (fun _ h => h) (.cells #[] 54)).grown hg' (fun _ h => h) (fun k hk => by injection hk with hk; exact Nat.le_of_eq hk)); clear ho' hg')
    go_ret
    exact ⟨_, n, rfl, ⟨HN.out, by simpa using HN'.out⟩, HO'.out⟩

theorem Grow_nil (w : World) (n : Nat) (hn : n ≤ 1000000) : Calls Tryz.prog 73 #[.slice none 0 0, .int .i64 n] w fun e w' => ∃ v, e = .returned v ∧ w'.ownsRow w.heap.size 54 2 v 0 [] ∧ Only (w.heap.size ≤ ·) w w' := by
  obtain ⟨i0, hi0, hz0, hz1, hz2⟩ := info_parts infoRun
  rcases Nat.eq_zero_or_pos n with h0 | h0
  · subst h0
    refine (Any8.slices_Grow_room Tryz.layGrow none 0 0 0 w (by omega) (by omega) (by omega) (by omega)).mono fun e w' ⟨h1, h2⟩ => ⟨_, h1, World.ownsRow_nil _ _ _ _, by rw [h2]; exact Only.refl _ _⟩
  · refine (Any8.slices_Grow_grow Tryz.layGrow i0 z2 hi0 hz0 (by rw [hz1]; omega) none 0 0 n [] w (by omega) (by omega) (by rw [hz2]; omega) (by omega) (by simp) (fun _ => rfl) (fun a ha => by cases ha)).mono fun e w' ⟨h1, h2⟩ => ⟨_, h1, ?_, ?_⟩
    · rw [h2]
      refine World.ownsRow_made (base := w.heap.size) w.drew _ _ (Nat.le_refl _) (grownCap_le_maxLen w _ _ _ (by unfold maxLen; omega)) ?_
      have hG := grownCap_ge w (0 + n) 0 54
      rw [Nat.zero_add] at hG
      have hz : ∀ k, (Builtin.zeroCells z2.cells k).size = k * 2 := fun k => by simp [Builtin.zeroCells, z2, Value.cells]
      have e0 : (Tryz.layGrow_ren.t 25) = 54 := rfl
      simp only [Array.size_append, hz, e0]
      simp
      omega
    · rw [h2]
      exact (Only.refl _ w).drew.alloc (fun _ h => h) _

def lens (L : List (Value × List R)) : Int := (L.map fun x => (x.2.length : Int)).sum
def flat (L : List (Value × List R)) : List R := L.flatMap (·.2)
theorem lens_snoc {L : List (Value × List R)} {k : Nat} {x : Value × List R} (h : L[k]? = some x) : lens (L.take (k + 1)) = lens (L.take k) + x.2.length := by
  unfold lens; rw [List.take_add_one, h]; simp
theorem flat_snoc {L : List (Value × List R)} {k : Nat} {x : Value × List R} (h : L[k]? = some x) : flat (L.take (k + 1)) = flat (L.take k) ++ x.2 := by
  unfold flat; rw [List.take_add_one, h]; simp
theorem lens_flat : ∀ L : List (Value × List R), lens L = (flat L).length
  | [] => rfl
  | x :: L => by
    have h := lens_flat L
    have e1 : lens (x :: L) = x.2.length + lens L := by simp [lens]
    have e2 : flat (x :: L) = x.2 ++ flat L := by simp [flat]
    rw [e1, e2, List.length_append, h]
    omega

set_option maxRecDepth 100000 in
set_option maxHeartbeats 3200000 in
theorem Concat_c (w : World) (gb : Nat) (L : List (Value × List R)) (h2 : L.length = 2) (hb : Blk w gb 33 (L.map (·.1))) (hr : ∀ x ∈ L, Row w x.1 x.2 ∧ x.2.length ≤ 100000) :
    Calls Tryz.prog 58 #[.slice (some ⟨gb, 0, none⟩) 2 2] w (Owns w (flat L)) := by
  obtain ⟨i0, hi0, hz0, hz1, hz2⟩ := info_parts infoRun
  have HI := Lib.hid (And.intro hi0 (And.intro hz0 (And.intro hz1 hz2)))
  clear hi0 hz0 hz1 hz2
  have HAT : Hid (∀ W : World, Only (w.heap.size ≤ ·) w W → ∀ k, k < 2 → ∃ A c l, L[k]? = some (.slice A l.length c, l) ∧ Rs W A l ∧ (A = none → c = 0) ∧ l.length ≤ c ∧ c ≤ 9223372036854775807 ∧ l.length ≤ 100000 ∧ W.cell? ⟨gb, k, none⟩ = some (.slice A l.length c)) := fun W hW k hk => by
    obtain ⟨x, hx⟩ : ∃ x, L[k]? = some x := ⟨_, List.getElem?_eq_getElem (by omega)⟩
    obtain ⟨⟨A, c, e, h1, h3, h4, h5⟩, h6⟩ := hr x (List.mem_of_getElem? hx)
    obtain ⟨v, l⟩ := x
    simp only at e h1 h4 h6
    subst e
    refine ⟨A, c, l, hx, h1.later hW, h3, h4, h5, h6, ?_⟩
    rw [(hb.later hW).cell, List.getElem?_map, hx]
    rfl
  have HL2 := Lib.hid h2
  clear hb hr h2
  go_enter Tryz.func58, Tryz.ntmps58
  go_wp2
  go_loopw [3, 11] (fun s i wr => ∃ (k : Nat) (t : Int), k ≤ 2 ∧ 0 ≤ t ∧ t ≤ k * 100000 ∧ s = .int .i64 t ∧ i = .int .i64 k ∧ Hid (t = lens (L.take k)) ∧ Only (w.heap.size ≤ ·) w wr) (fun _ i _ => 2 - (intOf i).toNat)
  case atStart => exact ⟨0, 0, Nat.zero_le _, by omega, by omega, rfl, rfl, rfl, Only.refl _ _⟩
  case round =>
    obtain ⟨k, t, hk, ht0, ht, rfl, rfl, HT, ho⟩ := hrel
    have HO := Lib.hid ho
    clear ho
    by_cases hlt : k < 2
    · obtain ⟨A, c, l, hx, hs, hA, hlc, hc, hlen, hcell⟩ := HAT.out _ HO.out k hlt
      have HX := Lib.hid (lens_snoc hx)
      have hk2 : (k : Int) < 2 := by omega
      obtain ⟨m, hm⟩ : ∃ m, m = l.length := ⟨_, rfl⟩
      rw [← hm] at hlen hlc hcell
      have HM := Lib.hid hm
      clear hm hx hs hA
      go_wp2
      go_roundw
      case rel => exact ⟨k + 1, _, by omega, by omega, by omega, rfl, by go_num, Lib.hid (by rw [HX.out, ← HT.out, HM.out]), HO.out⟩
      case measure => simp [intOf]; omega
    · obtain rfl : k = 2 := by omega
      obtain ⟨n, rfl⟩ : ∃ n : Nat, t = n := ⟨t.toNat, by omega⟩
      have hkm : ¬ (2 : Int) < (2 : Int) := by omega
      have HG : Hid (∀ W : World, Calls Tryz.prog 73 #[.slice none 0 0, .int .i64 n] W fun e w' => ∃ v, e = .returned v ∧ w'.ownsRow W.heap.size 54 2 v 0 [] ∧ Only (W.heap.size ≤ ·) W w') := fun W => Grow_nil W n (by omega)
      go_wp2_with (go_at_call 73; refine (HG.out _).mono ?_; rintro e w1 ⟨v, rfl, hv, ho1⟩; have HV := Lib.hid hv; have HO1 := Lib.hid (on_new HO.out ho1); clear hv ho1)
      have HV0 : Hid (w1.ownsRow w.heap.size 54 2 v 0 []) := by
        have hs := HO.out.size
        rcases HV.out.2 with ⟨e1, e2⟩ | ⟨g, cap, cur, e1, e2, e3⟩
        · exact ⟨HV.out.1, .inl ⟨e1, e2⟩⟩
        · exact ⟨HV.out.1, .inr ⟨g, cap, cur, e1, by omega, e3⟩⟩
      clear HV HG
      go_loopw [6, 27] (fun s i wr => ∃ (k N : Nat) (u : Value), k ≤ 2 ∧ N ≤ k * 100000 ∧ s = u ∧ i = .int .i64 k ∧ Hid (N = (flat (L.take k)).length) ∧ Hid (wr.ownsRow w.heap.size 54 2 u N (rc (flat (L.take k)))) ∧ Only (w.heap.size ≤ ·) w wr) (fun _ i _ => 2 - (intOf i).toNat)
      case atStart => exact ⟨0, 0, _, Nat.zero_le _, Nat.zero_le _, rfl, rfl, rfl, HV0.out, HO1.out⟩
      case round =>
        obtain ⟨k, N, u, hk, hN, rfl, rfl, HN, HW, ho⟩ := hrel
        have HO2 := Lib.hid ho
        clear ho
        by_cases hlt : k < 2
        · obtain ⟨A, c, l, hx, hs, hA, hlc, hc, hlen, hcell⟩ := HAT.out _ HO2.out k hlt
          have HX := Lib.hid (flat_snoc hx)
          have hk2 : (k : Int) < 2 := by omega
          obtain ⟨m, hm⟩ : ∃ m, m = l.length := ⟨_, rfl⟩
          rw [← hm] at hlen hlc hcell
          have HM := Lib.hid hm
          have HS := Lib.hid (And.intro hs hA)
          have HRL : Hid ((rc l).length = m * 2) := by show _ = _; rw [rc_length, ← hm]
          clear hm hx hs hA
          go_wp2_with (at_builtin; refine wpList_append_src _ rfl (.tmp 31) (.tmp 32) 33 rfl w.heap.size 54 i0 z2 2 16 Tryz.underlying33 HI.out.1 HI.out.2.1 HI.out.2.2.1 HI.out.2.2.2 (by rfl) (by omega) _ N (rc (flat (L.take k))) rfl HW.out A m c (rc l) rfl (fun e => ⟨by have := HS.out.2 e; omega, HS.out.2 e⟩) HRL.out HS.out.1.src (rc_one _) (by simp only [maxLen]; omega) (by omega) HO2.out.size ?_; intro v' w' ho' hg'; have HN' := Lib.hid ho'; have HO' := Lib.hid (HO2.out.grown hg' (fun _ h => h) (fun g hg => (World.ownsRow.lt HW.out g hg).1)); clear ho' hg')
          go_roundw
          case rel => exact ⟨k + 1, N + m, _, by omega, by omega, rfl, by go_num, Lib.hid (by rw [HX.out, List.length_append, ← HN.out, HM.out]), Lib.hid (by rw [HX.out, rc_append]; exact HN'.out), HO'.out⟩
          case measure => simp [intOf]; omega
        · obtain rfl : k = 2 := by omega
          have hkm : ¬ (2 : Int) < (2 : Int) := by omega
          have HT2 : Hid (L.take 2 = L) := List.take_of_length_le (by rw [HL2.out]; exact Nat.le_refl _)
          rw [HT2.out] at HN HW
          go_wp2
          go_ret
          exact ⟨_, N, rfl, ⟨HN.out, HW.out⟩, HO2.out⟩
end Go.Proofs.YtmadlckladohbaaGreat
