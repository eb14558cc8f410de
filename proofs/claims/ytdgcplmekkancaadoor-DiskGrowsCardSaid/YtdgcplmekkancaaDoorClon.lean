/-
  A clone of a slice of sectors, or of writes.
-/
import Derived.Test.YtdgcplmekkancaaDoorByts
import Derived.WalkSpells
set_option linter.unusedVariables false
namespace Go.Proofs.YtdgcplmekkancaaDoor
open Go.RowKit

theorem info58 : (Tryd.prog.info? 53).map (fun i => (i.zero, i.size, i.bytes)) = some (some (.agg ((#[.int .i64 0] : Array Value) ++ Array.replicate 64 z8)), 65, 72) := by kernel_rfl

set_option maxRecDepth 100000 in
set_option maxHeartbeats 800000 in
theorem clone53_c (w : World) (b0 : Nat) (v : Value) (n : Nat) (xs : List Value) (ho : w.ownsRow b0 47 64 v n xs) (hn : n ≤ 4294967296) (h1 : ∀ v ∈ xs, v.oneCell' = true) :
    Calls Tryd.prog 23 #[v] w fun e w' => ∃ v', e = .returned v' ∧ w'.ownsRow w.heap.size 47 64 v' n xs ∧ Only (w.heap.size ≤ ·) w w' := by
  obtain ⟨i0, hi0, hz0, hz1, hz2⟩ := info_parts info53
  have hnil := fun (W : World) (a : Option Addr) (n c : Nat) => Lib.run_eql_slice_nil (P := Tryd.prog) W 43 47 a n c 0 0 Tryd.underlying43
  obtain ⟨hlen, h | ⟨g, cap, cur, rfl, hb, hg, hnc, hcm, hcs, htake⟩⟩ := ho
  · obtain ⟨rfl, rfl⟩ := h
    obtain rfl : xs = [] := List.eq_nil_of_length_eq_zero (by simpa using hlen)
    go_enter Tryd.func23, Tryd.ntmps23
    go_wp2
    go_ret
    exact ⟨_, rfl, World.ownsRow_nil _ _ _ _, Only.refl _ _⟩
  · have Ho : Hid (((w.alloc (.cells #[] 47)).drew.ownsRow w.heap.size 47 64 (.slice (some ⟨w.heap.size, 0, none⟩) 0 0) 0 []) ∧ (w.alloc (.cells #[] 47)).ownsRow w.heap.size 47 64 (.slice (some ⟨w.heap.size, 0, none⟩) 0 0) 0 []) := by
      have h := World.ownsRow_made (size := 64) (base := w.heap.size) (e := 47) w #[] 0 (Nat.le_refl _) (by simp [maxLen]) (by simp)
      exact ⟨h, h⟩
    have Hc : Hid (∀ j u, xs[j]? = some u → (w.alloc (.cells #[] 47)).cell? ((⟨g, 0, none⟩ : Addr).add j) = some u) := by
      intro j u hu
      have hlt : g < w.heap.size := (Array.getElem?_eq_some_iff.1 hg).1
      rw [World.cell?_alloc_lt w _ _ (by rw [show ((⟨g, 0, none⟩ : Addr).add j).block = g by unfold Addr.add; split <;> rfl]; exact hlt)]
      rw [Addr.add_mid, cell_of_row w g _ cur 47 (0, 0) hg, Nat.zero_add]
      rw [← htake, List.getElem?_take] at hu
      split at hu
      · simpa using hu
      · cases hu
    have Hl := Lib.hid hlen
    clear hlen htake hcs hg
    go_enter Tryd.func23, Tryd.ntmps23
    go_wp2_with (at_builtin; refine wpList_append_own _ rfl (.tmp 5) (.tmp 6) 43 rfl w.heap.size 47 i0 _ 64 64 Tryd.underlying43 hi0 hz0 hz1 hz2 (by rfl) (by omega) _ _ _ rfl Ho.out.2 ⟨g, 0, none⟩ n cap xs rfl Hl.out Hc.out h1 (by simp only [maxLen]; omega) (by omega) (by simp) ?_; intro v' w' ho' hg' _)
    go_ret
    exact ⟨_, rfl, by simpa using ho', (((Only.refl _ w).alloc (fun _ h => h) _).grown hg' (fun _ h => h) (fun k hk => by injection hk with hk; exact Nat.le_of_eq hk))⟩

end Go.Proofs.YtdgcplmekkancaaDoor
