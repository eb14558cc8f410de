/-
  A pool: Pages, extend, tail.
-/
import Derived.Test.YtmadlckladohbaaGreatPst
import Derived.BigQuiet
import Derived.StillTailTactics
set_option linter.unusedVariables false
namespace Go.Proofs.YtmadlckladohbaaGreat
open Go.RowKit

theorem pPages_c (w : World) (pb mb n : Nat) (S : PS) (h : At w pb mb n S) : Calls Tryz.prog 20 #[.pointer (some ⟨pb, 0, none⟩)] w (Told w (.int .i64 S.pages)) := by
  obtain ⟨fv, fl, D, h⟩ := h
  obtain ⟨c0, c1, c2, c3⟩ := h.cells
  clear h
  obtain ⟨a, l, F, H⟩ := S
  simp only at c0 c1
  go_enter Tryz.func20, Tryz.ntmps20
  go_wp2
  go_ret
  exact ⟨rfl, Only.refl _ _⟩

def Full (w : World) (e : Ending) (w' : World) : Prop := e = .returned (.tuple #[.int .i64 0, .int .i64 12]) ∧ Only (w.heap.size ≤ ·) w w'
theorem extend_no (w : World) (pb mb n : Nat) (S : PS) (a m : Int) (v : Value) (h : At w pb mb n S) (hok : S.Ok) (ha : 0 ≤ a ∧ a ≤ S.pages) (hm : 1 ≤ m ∧ m ≤ 9223372036854775807) (hbig : S.limit - a < m) :
    Calls Tryz.prog 39 #[.pointer (some ⟨pb, 0, none⟩), .int .i64 a, .int .i64 m, v] w (Full w) := by
  obtain ⟨fv, fl, D, h⟩ := h
  obtain ⟨c0, c1, c2, c3⟩ := h.cells
  have o1 := hok.hi
  have o2 := hok.top
  have o3 := hok.lo
  clear h hok
  obtain ⟨pg, l, F, H⟩ := S
  simp only at c0 c1 ha hbig o1 o2 o3
  go_enter Tryz.func39, Tryz.ntmps39
  go_wp2
  go_ret2
  exact ⟨rfl, Only.refl _ _⟩

/-- What a call that takes pages leaves. -/
def Gone (w : World) (pb mb n : Nat) (a : Int) (S : PS) (e : Ending) (w' : World) : Prop := e = .returned (.tuple #[.int .i64 a, .int .i64 0]) ∧ At w' pb mb n S ∧ Touch pb mb w w'
theorem extend_yes (w : World) (pb mb n : Nat) (S : PS) (a m : Int) (v : Value) (l : List R) (G : Int → Prop) (h : At w pb mb n S) (hok : S.Ok) (ha : 0 ≤ a ∧ a ≤ S.pages) (hm : 1 ≤ m) (hbig : m ≤ S.limit - a)
    (hv : Row w v l) (hvo : Off pb v l) (hr : IsRow l G) :
    Calls Tryz.prog 39 #[.pointer (some ⟨pb, 0, none⟩), .int .i64 a, .int .i64 m, v] w (Gone w pb mb n a { S with pages := a + m, F := G }) := by
  obtain ⟨fv, fl, D, h⟩ := h
  have HAT := Lib.hid h
  obtain ⟨A, nn, cc, rfl⟩ := hv.form
  have HV : Hid (Row w (.slice A nn cc) l ∧ Off pb (.slice A nn cc) l ∧ IsRow l G) := ⟨hv, hvo, hr⟩
  obtain ⟨c0, c1, c2, c3⟩ := h.cells
  have f0 := h.frozen 0
  have f2 := h.frozen 2
  have o1 := hok.hi
  have o2 := hok.top
  have o3 := hok.lo
  clear h hok hv hvo hr
  obtain ⟨pg, lim, F, H⟩ := S
  simp only at c0 c1 ha hbig o1 o2 o3
  have hd : decide (lim - a < m) = false := decide_eq_false (by omega)
  go_enter Tryz.func39, Tryz.ntmps39
  go_wp2
  go_ret2
  have hb := HAT.out.1
  have hO : Only (· = pb) w ((w.setCell ⟨pb, 0, none⟩ (.int .i64 (a + m))).setCell ⟨pb, 2, none⟩ (.slice A nn cc)) := ((Only.refl (fun k => k = pb) w).setCell (p := ⟨pb, 0, none⟩) rfl _).setCell (p := ⟨pb, 2, none⟩) rfl _
  exact ⟨rfl, ⟨_, _, D, HAT.out.put hO ((hb.set_ 0 _).set_ 2 _) HV.out.1 HV.out.2.1 HV.out.2.2⟩, Only.mono hO fun k hk => .inr (.inl hk)⟩
end Go.Proofs.YtmadlckladohbaaGreat
