/-
  slices.Grow of nil, slices.Concat, of writes.
-/
import Derived.Test.YtbpldkhgiddmlaaGreatDoorGa
set_option linter.unusedVariables false
namespace Go.Proofs.YtbpldkhgiddmlaaGreatDoor
open Go.RowKit Go.Proofs

def zW : Value := .agg #[.int .i64 0, .slice none 0 0]
theorem info_W : (Tryz.prog.info? 71).map (fun i => (i.zero, i.size, i.bytes)) = some (some zW, 2, 32) := by kernel_rfl
def layW_ren : Go.Shelf.Ren := ⟨fun | 4 => 64 | n => n, fun | 22 => 47 | 25 => 71 | 3 => 3 | 4 => 4 | 9 => 9 | 20 => 20 | 0 => 0 | 2 => 3 | n => n, fun | n => n⟩
theorem layW : Go.Proofs.Lays8.n4 Tryz.prog layW_ren := {
  mixed := by kernel_rfl
  f4 := ⟨Tryz.f64.name, by decide, Tryz.func64.trans (congrArg some (by kernel_rfl))⟩
  t0 := Tryz.underlying0
  a0 := Tryz.isAgg0
  z0 := Tryz.sizeOf0
  v0 := Tryz.zeroValue0
  t3 := Tryz.underlying3
  a3 := Tryz.isAgg3
  z3 := Tryz.sizeOf3
  v3 := Tryz.zeroValue3
  t4 := Tryz.underlying4
  a4 := Tryz.isAgg4
  z4 := Tryz.sizeOf4
  v4 := Tryz.zeroValue4
  t9 := Tryz.underlying9
  a9 := Tryz.isAgg9
  z9 := Tryz.sizeOf9
  v9 := Tryz.zeroValue9
  t20 := Tryz.underlying20
  a20 := Tryz.isAgg20
  z20 := Tryz.sizeOf20
  v20 := Tryz.zeroValue20
  t22 := Tryz.underlying47
  a22 := Tryz.isAgg47
  z22 := Tryz.sizeOf47
  v22 := Tryz.zeroValue47 }

theorem PGrow_nil (w : World) (n : Nat) (hn : n ≤ 1000000) : Calls Tryz.prog 64 #[.slice none 0 0, .int .i64 n] w fun e w' => ∃ v, e = .returned v ∧ w'.ownsRow w.heap.size 71 2 v 0 [] ∧ Only (w.heap.size ≤ ·) w w' := by
  obtain ⟨i0, hi0, hz0, hz1, hz2⟩ := info_parts info_W
  rcases Nat.eq_zero_or_pos n with h0 | h0
  · subst h0
    refine (Any8.slices_Grow_room layW none 0 0 0 w (by omega) (by omega) (by omega) (by omega)).mono fun e w' ⟨h1, h2⟩ => ⟨_, h1, World.ownsRow_nil _ _ _ _, by rw [h2]; exact Only.refl _ _⟩
  · refine (Any8.slices_Grow_grow layW i0 zW hi0 hz0 (by rw [hz1]; omega) none 0 0 n [] w (by omega) (by omega) (by rw [hz2]; omega) (by omega) (by simp) (fun _ => rfl) (fun a ha => by cases ha)).mono fun e w' ⟨h1, h2⟩ => ⟨_, h1, ?_, ?_⟩
    · rw [h2]
      refine World.ownsRow_made (base := w.heap.size) w.drew _ _ (Nat.le_refl _) (grownCap_le_maxLen w _ _ _ (by unfold maxLen; omega)) ?_
      have hG := grownCap_ge w (0 + n) 0 71
      rw [Nat.zero_add] at hG
      have hz : ∀ k, (Builtin.zeroCells zW.cells k).size = k * 2 := fun k => by simp [Builtin.zeroCells, zW, Value.cells]
      have e0 : (layW_ren.t 25) = 71 := rfl
      simp only [Array.size_append, hz, e0]
      simp
      omega
    · rw [h2]
      exact (Only.refl _ w).drew.alloc (fun _ h => h) _

set_option maxRecDepth 100000 in
set_option maxHeartbeats 3200000 in
theorem PConcat_r (w : World) (gb q : Nat) (L : Lst) (h2 : L.length = q) (hq : q ≤ 3) (hb : Blk w gb 47 (L.map (·.1))) (hr : ∀ x ∈ L, RawV 2 w x.1 x.2.1 x.2.2 ∧ x.2.1 ≤ 100000) :
    Calls Tryz.prog 44 #[.slice (some ⟨gb, 0, none⟩) q q] w (OwnsR w 71 2 (lens L) (flat L)) := by
  obtain ⟨i0, hi0, hz0, hz1, hz2⟩ := info_parts info_W
  have HI := Lib.hid (And.intro hi0 (And.intro hz0 (And.intro hz1 hz2)))
  clear hi0 hz0 hz1 hz2
  have HAT : Hid (∀ W : World, Only (w.heap.size ≤ ·) w W → ∀ k, k < q → ∃ A c m C, L[k]? = some (.slice A m c, m, C) ∧ C.length = m * 2 ∧ Raw W A C ∧ (A = none → c = 0) ∧ m ≤ c ∧ c ≤ 9223372036854775807 ∧ (∀ u ∈ C, u.oneCell' = true) ∧ m ≤ 100000 ∧ W.cell? ⟨gb, k, none⟩ = some (.slice A m c)) := fun W hW k hk => by
    obtain ⟨x, hx⟩ : ∃ x, L[k]? = some x := ⟨_, List.getElem?_eq_getElem (by omega)⟩
    obtain ⟨⟨A, c, e, h1, h3, h4, h5, h6, h7⟩, h8⟩ := hr x (List.mem_of_getElem? hx)
    obtain ⟨v, m, C⟩ := x
    simp only at e h1 h3 h8 h7
    subst e
    refine ⟨A, c, m, C, hx, h1, h3.later hW, h4, h5, h6, h7, h8, ?_⟩
    rw [(hb.later hW).cell, List.getElem?_map, hx]
    rfl
  have HL2 := Lib.hid h2
  clear hb hr h2
  go_enter Tryz.func44, Tryz.ntmps44
  go_wp2
  go_loopw [3, 11] (fun s i wr => ∃ (k t : Nat), k ≤ q ∧ t ≤ k * 100000 ∧ s = .int .i64 t ∧ i = .int .i64 k ∧ Hid (t = lens (L.take k)) ∧ Only (w.heap.size ≤ ·) w wr) (fun _ i _ => q - (intOf i).toNat)
  case atStart => exact ⟨0, 0, Nat.zero_le _, by omega, rfl, rfl, rfl, Only.refl _ _⟩
  case round =>
    obtain ⟨k, t, hk, ht, rfl, rfl, HT, ho⟩ := hrel
    have HO := Lib.hid ho
    clear ho
    by_cases hlt : k < q
    · obtain ⟨A, c, m, C, hx, hcl, hs, hA, hlc, hc, _, hlen, hcell⟩ := HAT.out _ HO.out k hlt
      have HX := Lib.hid (lens_snoc hx)
      have hk2 : (k : Int) < (q : Int) := by omega
      clear hx hs hA hcl
      go_wp2
      go_roundw
      case rel => exact ⟨k + 1, t + m, by omega, by omega, by go_num, by go_num, Lib.hid (by rw [HX.out, ← HT.out]), HO.out⟩
      case measure => simp [intOf]; omega
    · obtain rfl : k = q := by omega
      have HG : Hid (∀ W : World, Calls Tryz.prog 64 #[.slice none 0 0, .int .i64 t] W fun e w' => ∃ v, e = .returned v ∧ w'.ownsRow W.heap.size 71 2 v 0 [] ∧ Only (W.heap.size ≤ ·) W w') := fun W => PGrow_nil W t (by omega)
      go_wp2_with (go_at_call 64; refine (HG.out _).mono ?_; rintro e w1 ⟨v, rfl, hv, ho1⟩; have HV := Lib.hid hv; have HO1 := Lib.hid (on_new HO.out ho1); clear hv ho1)
      have HV0 : Hid (w1.ownsRow w.heap.size 71 2 v 0 []) := by
        have hs := HO.out.size
        rcases HV.out.2 with ⟨e1, e2⟩ | ⟨g, cap, cur, e1, e2, e3⟩
        · exact ⟨HV.out.1, .inl ⟨e1, e2⟩⟩
        · exact ⟨HV.out.1, .inr ⟨g, cap, cur, e1, by omega, e3⟩⟩
      clear HV HG HT
      go_loopw [6, 27] (fun s i wr => ∃ (j N : Nat) (u : Value), j ≤ k ∧ N ≤ j * 100000 ∧ s = u ∧ i = .int .i64 j ∧ Hid (N = lens (L.take j)) ∧ Hid (wr.ownsRow w.heap.size 71 2 u N (flat (L.take j))) ∧ Only (w.heap.size ≤ ·) w wr) (fun _ i _ => k - (intOf i).toNat)
      case atStart => exact ⟨0, 0, _, Nat.zero_le _, Nat.zero_le _, rfl, rfl, rfl, HV0.out, HO1.out⟩
      case round =>
        obtain ⟨j, N, u, hj, hN, rfl, rfl, HN, HW, ho⟩ := hrel
        have HO2 := Lib.hid ho
        clear ho
        by_cases hlt : j < k
        · obtain ⟨A, c, m, C, hx, hcl, hs, hA, hlc, hc, h1c, hlen, hcell⟩ := HAT.out _ HO2.out j hlt
          have HX := Lib.hid (flat_snoc hx)
          have HX2 := Lib.hid (lens_snoc hx)
          have hk2 : (j : Int) < (k : Int) := by omega
          have HS := Lib.hid (And.intro hs hA)
          have HRL := Lib.hid hcl
          have H1 := Lib.hid h1c
          clear hx hs hA hcl h1c
          go_wp2_with (at_builtin; refine wpList_append_src _ rfl (.tmp 31) (.tmp 32) 47 rfl w.heap.size 71 i0 zW 2 32 Tryz.underlying47 HI.out.1 HI.out.2.1 HI.out.2.2.1 HI.out.2.2.2 (by rfl) (by omega) _ N (flat (L.take j)) rfl HW.out A m c C rfl (fun e => ⟨by have := HS.out.2 e; omega, HS.out.2 e⟩) HRL.out HS.out.1.src H1.out (by simp only [maxLen]; omega) (by omega) HO2.out.size ?_; intro v' w' ho' hg'; have HN' := Lib.hid ho'; have HO' := Lib.hid (HO2.out.grown hg' (fun _ h => h) (fun g hg => (World.ownsRow.lt HW.out g hg).1)); clear ho' hg')
          go_roundw
          case rel => exact ⟨j + 1, N + m, _, by omega, by omega, rfl, by go_num, Lib.hid (by rw [HX2.out, ← HN.out]), Lib.hid (by rw [HX.out]; exact HN'.out), HO'.out⟩
          case measure => simp [intOf]; omega
        · obtain rfl : j = k := by omega
          have hkm : ¬ (j : Int) < (j : Int) := by omega
          have HT2 : Hid (L.take j = L) := List.take_of_length_le (by rw [HL2.out]; exact Nat.le_refl _)
          rw [HT2.out] at HN HW
          go_wp2
          go_ret
          exact ⟨_, rfl, by rw [← HN.out]; exact HW.out, HO2.out⟩

end Go.Proofs.YtbpldkhgiddmlaaGreatDoor
