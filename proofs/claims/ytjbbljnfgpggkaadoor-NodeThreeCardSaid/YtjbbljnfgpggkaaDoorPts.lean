/-
  Parts of the program.
-/
import Derived.Test.YtjbbljnfgpggkaaDoorPrt
set_option linter.unusedVariables false
namespace Go.Proofs.YtjbbljnfgpggkaaDoor
open Go.RowKit
attribute [local go_sem] run_store_func

/-- The pieces come back. -/
def Pieces (w : World) (g : Int) (x : Nd) (e : Ending) (w' : World) : Prop := ∃ A1 n1 c1 l, e = .returned (.slice A1 n1 c1) ∧ Cuts g [] x l ∧ Pts w' (.slice A1 n1 c1) l ∧ Only (w.heap.size ≤ ·) w w'
set_option maxRecDepth 100000 in
set_option maxHeartbeats 6400000 in
theorem Parts_n (w : World) (f : Bool) (A B : Option Addr) (n c m d : Nat) (x : Nd) (g : Int) (hN : Nod w x f (.slice A n c) (.slice B m d)) (hg : Gens w) (hs : Small x) :
    Calls Tryd.prog 9 #[.int .i64 g, .agg #[.bool f, .slice A n c, .slice B m d]] w (Pieces w g x) := by
  have hmf : ∀ (fn : Fn) (first cap : Array Value) (w : World), (Instr.makeFunc fn first cap).run Tryd.prog w = .ok (.func fn first cap) w := fun _ _ _ _ => rfl
  obtain ⟨cl, hcl⟩ : ∃ cl : Value, cl = .func (.func 30) #[] #[.pointer (some ⟨w.heap.size, 0, none⟩), .pointer (some ⟨w.heap.size + 1 + 1, 0, none⟩), .pointer (some ⟨w.heap.size + 1 + 1 + 1, 0, none⟩)] := ⟨_, rfl⟩
  obtain ⟨W, hW⟩ : ∃ W, W = (((w.alloc (.cells #[.int .i64 g] 3)).alloc (.cells #[.bool f, .slice A n c, .slice B m d] 34)).alloc (.cells #[.slice none 0 0] 36)).alloc (.cells #[cl] 69) := ⟨_, rfl⟩
  have hO : Only (w.heap.size ≤ ·) w W := by rw [hW]; exact ((((Only.refl _ w).alloc (fun _ h => h) _).alloc (fun _ h => h) _).alloc (fun _ h => h) _).alloc (fun _ h => h) _
  have hZ : W.heap.size = w.heap.size + 4 := by rw [hW]; simp
  have b1 : Blk W w.heap.size 3 [.int .i64 g] := by rw [hW]; exact (((Blk.new w 3 [.int .i64 g]).alloc _).alloc _).alloc _
  have b3 : Blk W (w.heap.size + 1 + 1) 36 [.slice none 0 0] := by
    rw [hW]
    have := (Blk.new ((w.alloc (.cells #[.int .i64 g] 3)).alloc (.cells #[.bool f, .slice A n c, .slice B m d] 34)) 36 [.slice none 0 0]).alloc (.cells #[cl] 69)
    simpa using this
  have b4 : Blk W (w.heap.size + 1 + 1 + 1) 69 [cl] := by
    rw [hW]
    have := Blk.new (((w.alloc (.cells #[.int .i64 g] 3)).alloc (.cells #[.bool f, .slice A n c, .slice B m d] 34)).alloc (.cells #[.slice none 0 0] 36)) 69 [cl]
    simpa using this
  rw [hcl] at b4
  have HC : Hid (Calls Tryd.prog 30 #[.agg #[.slice none 0 0, .bool f, .slice A n c, .slice B m d], .pointer (some ⟨w.heap.size, 0, none⟩), .pointer (some ⟨w.heap.size + 1 + 1, 0, none⟩), .pointer (some ⟨w.heap.size + 1 + 1 + 1, 0, none⟩)] W (Added W (w.heap.size + 1 + 1) (w.heap.size + 4) (.slice none 0 0) [] g [] x)) := by
    have hm := hs.many
    refine add_c g w.heap.size (w.heap.size + 1 + 1) (w.heap.size + 1 + 1 + 1) (w.heap.size + 4) (by omega) (by omega) (by omega) (by omega) (by omega) (by omega) (many x) W x f none A B 0 0 n c m d 0 [] (.slice none 0 0) [] [] (Nat.le_refl _) hs (hg.later hO) (by omega) b1 b3 b4 (World.ownsRow_nil _ _ _ _) rfl (by omega) (fun _ _ => rfl) (hN.snod.step (hO.mono fun _ h => .inr h) fun k hk => ?_) rfl (fun W' _ => Src.nil_ W')
    rcases hk with hk | hk
    · exact .inr (by omega)
    · cases hk
  have HFIN : Hid (∀ (e : Ending) (w' : World), Added W (w.heap.size + 1 + 1) (w.heap.size + 4) (.slice none 0 0) [] g [] x e w' → e = .returned (.tuple #[]) ∧ ∃ A1 n1 c1 l, w'.cell? ⟨w.heap.size + 1 + 1, 0, none⟩ = some (.slice A1 n1 c1) ∧ Cuts g [] x l ∧ Pts w' (.slice A1 n1 c1) l ∧ Only (w.heap.size ≤ ·) w w') := by
    rintro e w' ⟨he, l, v', C', h1, h2, h3, h4, h5, h6⟩
    obtain ⟨A1, c1, rfl, _⟩ := raw_of_own h3
    refine ⟨he, A1, _, c1, l, h2.at0, h1, Own.rw_ (E := ptE) (t := 41) (B := w.heap.size + 4) ⟨rfl, C', h4.now, h3⟩, hO.trans (h5.mono fun k hk => ?_)⟩
    rcases hk with (hk | hk) | hk
    · omega
    · cases hk
    · omega
  clear hO hZ b1 b3 b4 hN hg hs
  subst hcl
  subst hW
  go_enter Tryd.func9, Tryd.ntmps9
  go_wp2_with (go_at_call 30; (with_reducible refine HC.out.mono ?_); rintro e w1 had; (obtain ⟨rfl, A1, n1, c1, l, r0, rest⟩ := HFIN.out _ _ had); have HR := Lib.hid rest; clear had rest)
  go_ret
  exact ⟨A1, n1, c1, l, rfl, HR.out⟩
end Go.Proofs.YtjbbljnfgpggkaaDoor
