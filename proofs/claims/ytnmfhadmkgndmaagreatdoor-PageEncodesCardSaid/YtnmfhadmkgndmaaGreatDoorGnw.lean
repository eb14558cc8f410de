/-
  PageGens: the walk.
-/
import Derived.Test.YtnmfhadmkgndmaaGreatDoorBak
import Derived.Test.YtnmfhadmkgndmaaGreatDoorGb
set_option linter.unusedVariables false
namespace Go.Proofs.YtnmfhadmkgndmaaGreatDoor
open Go.RowKit

theorem Nod.ln {w : World} {x : Nd} {f : Bool} {A B : Option Addr} {n c m d : Nat} (h : Nod w x f (.slice A n c) (.slice B m d)) : n = x.its.length ∧ m = x.kds.length := ⟨h.2.1.len, h.2.2.len⟩
section
variable (hal : ∀ W, Gens W → Calls Tryz.prog 5 #[] W (Told W (.bool true))) (w : World) (g h : Int) (f : Bool) (A B : Option Addr) (n c m d : Nat) (y : Nd) (hG : Gens w)
include hal hG
end
/-- What Encode answers, told by whether the node may be. -/
theorem Encode_y (w : World) (g : Int) (A B : Option Addr) (n c m d : Nat) (f : Bool) (x : Nd) (hN : Nod w x f (.slice A n c) (.slice B m d)) (hG : Gens w) (hn : n ≤ 1000) (hm : m ≤ 1000) (h : RightN g x ∧ anyU x.its = false) :
    Calls Tryz.prog 6 #[.int .i64 g, .agg #[.bool f, .slice A n c, .slice B m d]] w (GaveBE w (pageB g x) 0) :=
  (Encode_c w g A B n c m d f x hN hG hn hm).mono fun e w' ⟨b, hb, h1⟩ => by
    obtain rfl := hb.2 h
    rw [if_pos rfl, if_pos rfl] at h1
    exact h1
theorem Encode_n (w : World) (g : Int) (A B : Option Addr) (n c m d : Nat) (f : Bool) (x : Nd) (hN : Nod w x f (.slice A n c) (.slice B m d)) (hG : Gens w) (hn : n ≤ 1000) (hm : m ≤ 1000) (h : ¬ (RightN g x ∧ anyU x.its = false)) :
    Calls Tryz.prog 6 #[.int .i64 g, .agg #[.bool f, .slice A n c, .slice B m d]] w (GaveBE w [] 73) :=
  (Encode_c w g A B n c m d f x hN hG hn hm).mono fun e w' ⟨b, hb, h1⟩ => by
    cases b
    · exact h1
    · exact absurd (hb.1 rfl) h
theorem Decode_y (w : World) (v : Value) (k : Nat) (x : Nd) (hG : Gens w) (hs : Src w v (pageB k x)) (h : RightN (k : Int) x ∧ anyU x.its = false) (h1 : x.its.length ≤ 1000) (h2 : x.kds.length ≤ 1000) :
    Calls Tryz.prog 10 #[v] w (fun e w' => ∃ A n c B m d, e = .returned (.tuple #[.int .i64 (k : Nat), .agg #[.bool x.leaf, .slice A n c, .slice B m d], .int .i64 0]) ∧ Nod w' x x.leaf (.slice A n c) (.slice B m d) ∧ Only (w.heap.size ≤ ·) w w') := by
  obtain ⟨f1, f2, f3, f4⟩ := page_back h.1 h.2 h1 h2
  refine (Decode_c w v _ hG hs (by rw [f4]; decide)).mono ?_
  rintro e w' ⟨ok, hok, f, A, n, c, B, m, d, e1, e2, e3⟩
  obtain rfl := hok.2 f1
  rw [if_pos rfl, if_pos rfl, f2] at e1
  rw [if_pos rfl, f3] at e2
  obtain rfl : f = x.leaf := e2.1
  exact ⟨A, n, c, B, m, d, e1, e2, e3⟩
end Go.Proofs.YtnmfhadmkgndmaaGreatDoor
