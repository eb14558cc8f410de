/-
  New, Grow, Read, Copy of a disk.
-/
import Derived.Test.YtdgcplmekkancaaDoorMeth
import Derived.Deep.AppendLies
set_option linter.unusedVariables false
namespace Go.Proofs.YtdgcplmekkancaaDoor
open Go.RowKit

theorem New_c (w : World) (F : Nat → Prop) (hF : ∀ k, w.heap.size ≤ k → F k) (limit : Int) :
    Calls Tryd.prog 13 #[.int .i64 limit] w fun e w' => ∃ p, e = .returned (.pointer (some ⟨p, 0, none⟩)) ∧ Hid (Holds w' F p (Dsk.load [] limit) ∧ Only (w.heap.size ≤ ·) w w') := by
  have h := Load_c w F hF none 0 [] limit ⟨rfl, fun h => absurd h (by decide)⟩ (Nat.le_refl _) (by simp [maxLen])
  have H := h
  clear h
  go_enter Tryd.func13, Tryd.ntmps13
  go_wp2_with (go_at_call 5; refine H.mono ?_; rintro e w' ⟨p, rfl, h1, h2⟩; have h12 := Lib.hid (And.intro h1 h2); clear h1 h2)
  go_ret
  exact ⟨_, rfl, h12⟩

theorem Read_down (w : World) (F : Nat → Prop) (p : Nat) (d : Dsk) (h : Holds w F p d) (at_ many : Int) (hdn : d.down = true) :
    Calls Tryd.prog 17 #[.pointer (some ⟨p, 0, none⟩), .int .i64 at_, .int .i64 many] w fun e w' => e = .returned (.tuple #[.slice none 0 0, .int .i64 10]) ∧ w = w' := by
  obtain ⟨hw, Ad, As, Ar, cd, cs, cr, hd, hf⟩ := h
  have h7 : w.cell? ⟨p, 7, none⟩ = some (.bool d.down) := hd.blk.cell 7
  rw [hdn] at h7
  clear hw hd hf hdn
  go_enter Tryd.func17, Tryd.ntmps17
  go_wp2
  go_ret2
  exact ⟨rfl, rfl⟩

theorem Read_range (w : World) (F : Nat → Prop) (p : Nat) (d : Dsk) (h : Holds w F p d) (at_ many : Int) (ha : -9223372036854775808 ≤ at_) (ha' : at_ ≤ 9223372036854775807) (hdn : d.down = false) (hh : d.has at_ many = false) :
    Calls Tryd.prog 17 #[.pointer (some ⟨p, 0, none⟩), .int .i64 at_, .int .i64 many] w fun e w' => e = .returned (.tuple #[.slice none 0 0, .int .i64 11]) ∧ w = w' := by
  have hc := has_c w F p d h at_ many ha ha'
  rw [hh] at hc
  have Hc := Lib.hid hc
  obtain ⟨hw, Ad, As, Ar, cd, cs, cr, hd, hf⟩ := h
  have h7 : w.cell? ⟨p, 7, none⟩ = some (.bool d.down) := hd.blk.cell 7
  rw [hdn] at h7
  clear hw hd hf hdn hc hh
  go_enter Tryd.func17, Tryd.ntmps17
  go_wp2_with (go_at_call 33; refine Hc.out.mono ?_; rintro e w' ⟨rfl, rfl⟩)
  go_ret2
  exact ⟨rfl, rfl⟩

set_option maxHeartbeats 800000 in
theorem Read_ok (w : World) (F : Nat → Prop) (p : Nat) (d : Dsk) (h : Holds w F p d) (at_ many : Nat) (hdn : d.down = false) (hh : at_ + many ≤ d.n) :
    Calls Tryd.prog 17 #[.pointer (some ⟨p, 0, none⟩), .int .i64 at_, .int .i64 many] w fun e w' => e = .returned (.tuple #[.slice (some ⟨w.heap.size, 0, none⟩) (many * 64) (many * 64), .int .i64 0]) ∧
      Hid (Blk w' w.heap.size 5 (cb ((d.see.drop (at_ * 64)).take (many * 64))) ∧ Only (w.heap.size ≤ ·) w w') := by
  have hn : d.n ≤ 65536 := by have := h.1.nl; have := h.1.lim; omega
  have hc := has_c w F p d h at_ many (by omega) (by omega)
  rw [show d.has at_ many = true by simp [Dsk.has]; omega] at hc
  have Hc := Lib.hid hc
  obtain ⟨hw, Ad, As, Ar, cd, cs, cr, hd, hf⟩ := h
  have h7 : w.cell? ⟨p, 7, none⟩ = some (.bool d.down) := hd.blk.cell 7
  have h2 : w.cell? ⟨p, 2, none⟩ = some (.slice As d.n cs) := hd.blk.cell 2
  rw [hdn] at h7
  have Hcap := Lib.hid (owns_cap hd.seen)
  have hsee := hw.see
  have Hl : Hid ((cb ((d.see.drop (at_ * 64)).take (many * 64))).length = many * 64) := by
    show _ = _
    rw [cb_length, List.length_take, List.length_drop, hsee]
    omega
  have Hs : Hid (0 < many → ∃ ad, As.map (fun x => x.add (at_ * 64)) = some ad ∧ ad.block < w.heap.size ∧ ∀ j u, (cb ((d.see.drop (at_ * 64)).take (many * 64)))[j]? = some u → w.cell? (ad.add j) = some u) := by
    intro hm
    obtain ⟨g, hg⟩ := owns_pos hd.seen (by omega)
    obtain ⟨g', cur, hgg, hb, _⟩ := owns_form hd.seen hg
    cases hgg
    have hA2 : As.map (fun x => x.add (at_ * 64)) = some ⟨g, at_ * 64, none⟩ := by rw [hg, Option.map_some, Addr.add_mid, Nat.zero_add]
    refine ⟨_, hA2, hb.lt, fun j u hu => ?_⟩
    rw [Addr.add_mid, hb.cell]
    rw [cb_take, cb_drop, List.getElem?_take] at hu
    split at hu
    · rw [List.getElem?_drop] at hu
      rw [List.getElem?_append_left (List.getElem?_eq_some_iff.1 hu).1]
      exact hu
    · cases hu
  have h0a : (0 : Int) ≤ (at_ : Int) := by omega
  have h0m : (0 : Int) ≤ (many : Int) := by omega
  have hsum : (at_ : Int) + many ≤ d.n := by omega
  have hsum2 : ((at_ : Int) + many).toNat = at_ + many := by omega
  have hcap : (d.n : Int) ≤ cs := by have := Hcap.out.1; omega
  have hcap2 : (at_ : Int) + many ≤ cs := by omega
  have hm : many ≤ 4294967296 := by omega
  have hle : at_ ≤ at_ + many := by omega
  clear hw hd hf hdn hc hsee hh
  go_enter Tryd.func17, Tryd.ntmps17
  go_wp2_with (go_at_call 33; refine Hc.out.mono ?_; rintro e w' ⟨rfl, rfl⟩)
  all_goals first
    | with_reducible refine (bytesOf_c w _ many _ _ Hl.out Hs.out hm (cb_one _)).mono ?_
    | with_reducible refine (bytesOf_c w _ many _ _ Hl.out (fun h => absurd h (by omega)) hm (cb_one _)).mono ?_
  all_goals
    rintro e w1 ⟨rfl, hb⟩
    have Hb := Lib.hid hb
    clear hb
    go_wp2
    go_ret2
    exact ⟨rfl, Hb⟩
end Go.Proofs.YtdgcplmekkancaaDoor
