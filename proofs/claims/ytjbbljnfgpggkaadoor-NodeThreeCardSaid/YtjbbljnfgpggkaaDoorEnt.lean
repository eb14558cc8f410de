/-
  What is asked of a node's items, or kids, one by one.
-/
import Derived.Test.YtjbbljnfgpggkaaDoorPln
import Derived.Test.YtjbbljnfgpggkaaDoorRoom
import Derived.Test.YtjbbljnfgpggkaaDoorOf
set_option linter.unusedVariables false
namespace Go.Proofs.YtjbbljnfgpggkaaDoor
open Go.RowKit

theorem run_store_func {P : Program} {w : World} {a : Addr} {m : Mode} (fn : Fn) (x y : Array Value) : (store a (.func fn x y) m).run P w = stored P w a (.func fn x y) m := run_store P w a _ m rfl
attribute [local go_sem] run_store_func
/-- A value that holds these bytes is handed back; what was there is as it was. -/
def Gave (w : World) (xs : Bytes) (e : Ending) (w' : World) : Prop := ∃ A c, e = .returned (.slice A xs.length c) ∧ Src w' (.slice A xs.length c) xs ∧ Only (w.heap.size ≤ ·) w w'
section
variable (w : World) (f : Bool) (A B : Option Addr) (n c m d k : Nat) (x : Nd) (g : Int)

set_option maxHeartbeats 1600000 in
theorem itemRoom_c (i : It) (hN : Nod w x f (.slice A n c) (.slice B m d)) (hg : Gens w) (hs : Small x) (hx : x.its[k]? = some i) :
    Calls Tryd.prog 60 #[.agg #[.bool f, .slice A n c, .slice B m d], .int .i64 g, .int .i64 k] w (Told w (.int .i64 (irm g i))) := by
  have HO : Hid (Only (w.heap.size ≤ ·) w (w.alloc (.cells #[.bool f, .slice A n c, .slice B m d] 34))) := (Only.refl _ w).alloc (fun _ h => h) _
  have hkn : k < n := by rw [hN.2.1.len]; exact (List.getElem?_eq_some_iff.1 hx).1
  have hcn := hN.2.1.cap
  obtain ⟨b, off, y, P, Q, p, q, rfl, hb, hy, q0, q1, q2, q3, _, _⟩ := its_at (hN.2.1.later HO.out) hkn
  obtain rfl : y = i := Option.some.inj (hy.symm.trans hx)
  have hsm := hs.2.2.1 y (List.mem_of_getElem? hx)
  have HG := Lib.hid (hg.later HO.out)
  obtain ⟨xs, ys, s, r⟩ := y
  have HR : Hid (∀ W, Gens W → Calls Tryd.prog 74 #[.int .i64 g, .agg #[.slice P xs.length p, .slice Q ys.length q, .int .i64 s, .int .i64 r]] W (Told W (.int .i64 (irm g (xs, ys, s, r))))) := fun W hW => Room_c W P Q _ p _ q s r g hW (Nat.le_trans hsm.1 (by omega)) (Nat.le_trans hsm.2 (by omega))
  simp only at q0 q1 q2 q3
  clear hN hx hy hsm hs hg
  generalize irm g (xs, ys, s, r) = z at HR ⊢
  go_enter Tryd.func60, Tryd.ntmps60
  go_wp2_with (go_at_call 74; (with_reducible refine (HR.out _ HG.out).mono ?_); rintro e w1 ⟨rfl, ho⟩; (replace HO := Lib.hid (on_new HO.out ho)); clear ho)
  go_ret
  exact ⟨rfl, HO.out⟩

set_option maxHeartbeats 1600000 in
theorem kidRoom_c (i : Kd) (hN : Nod w x f (.slice A n c) (.slice B m d)) (hg : Gens w) (hs : Small x) (hx : x.kds[k]? = some i) :
    Calls Tryd.prog 63 #[.agg #[.bool f, .slice A n c, .slice B m d], .int .i64 g, .int .i64 k] w (Told w (.int .i64 (krm g i))) := by
  have HO : Hid (Only (w.heap.size ≤ ·) w (w.alloc (.cells #[.bool f, .slice A n c, .slice B m d] 34))) := (Only.refl _ w).alloc (fun _ h => h) _
  have hkn : k < m := by rw [hN.2.2.len]; exact (List.getElem?_eq_some_iff.1 hx).1
  have hcn := hN.2.2.cap
  obtain ⟨b, off, y, P, p, rfl, hb, hy, q0, q1, _⟩ := kds_at (hN.2.2.later HO.out) hkn
  obtain rfl : y = i := Option.some.inj (hy.symm.trans hx)
  have hsm := hs.2.2.2 y (List.mem_of_getElem? hx)
  have HG := Lib.hid (hg.later HO.out)
  obtain ⟨xs, r⟩ := y
  have HR : Hid (∀ W, Gens W → Calls Tryd.prog 76 #[.int .i64 g, .slice P xs.length p] W (Told W (.int .i64 (krm g (xs, r))))) := fun W hW => KidRoom_c W P _ p g hW (Nat.le_trans hsm (by omega))
  simp only at q0 q1
  clear hN hx hy hsm hs hg
  generalize krm g (xs, r) = z at HR ⊢
  go_enter Tryd.func63, Tryd.ntmps63
  go_wp2_with (go_at_call 76; (with_reducible refine (HR.out _ HG.out).mono ?_); rintro e w1 ⟨rfl, ho⟩; (replace HO := Lib.hid (on_new HO.out ho)); clear ho)
  go_ret
  exact ⟨rfl, HO.out⟩

set_option maxHeartbeats 1600000 in
theorem itemKey_c (i : It) (hN : Nod w x f (.slice A n c) (.slice B m d)) (hx : x.its[k]? = some i) :
    Calls Tryd.prog 59 #[.agg #[.bool f, .slice A n c, .slice B m d], .int .i64 k] w (Gave w i.1) := by
  have HO : Hid (Only (w.heap.size ≤ ·) w (w.alloc (.cells #[.bool f, .slice A n c, .slice B m d] 34))) := (Only.refl _ w).alloc (fun _ h => h) _
  have hkn : k < n := by rw [hN.2.1.len]; exact (List.getElem?_eq_some_iff.1 hx).1
  have hcn := hN.2.1.cap
  obtain ⟨b, off, y, P, Q, p, q, rfl, hb, hy, q0, q1, q2, q3, s1, _⟩ := its_at (hN.2.1.later HO.out) hkn
  obtain rfl : y = i := Option.some.inj (hy.symm.trans hx)
  obtain ⟨xs, ys, s, r⟩ := y
  have HS := Lib.hid s1
  simp only at q0 q1 q2 q3
  clear hN hx hy s1
  go_enter Tryd.func59, Tryd.ntmps59
  go_wp2
  go_ret
  exact ⟨_, _, rfl, HS.out, HO.out⟩

set_option maxHeartbeats 1600000 in
theorem kidKey_c (i : Kd) (hN : Nod w x f (.slice A n c) (.slice B m d)) (hx : x.kds[k]? = some i) :
    Calls Tryd.prog 62 #[.agg #[.bool f, .slice A n c, .slice B m d], .int .i64 k] w (Gave w i.1) := by
  have HO : Hid (Only (w.heap.size ≤ ·) w (w.alloc (.cells #[.bool f, .slice A n c, .slice B m d] 34))) := (Only.refl _ w).alloc (fun _ h => h) _
  have hkn : k < m := by rw [hN.2.2.len]; exact (List.getElem?_eq_some_iff.1 hx).1
  have hcn := hN.2.2.cap
  obtain ⟨b, off, y, P, p, rfl, hb, hy, q0, q1, s1⟩ := kds_at (hN.2.2.later HO.out) hkn
  obtain rfl : y = i := Option.some.inj (hy.symm.trans hx)
  obtain ⟨xs, r⟩ := y
  have HS := Lib.hid s1
  simp only at q0 q1
  clear hN hx hy s1
  go_enter Tryd.func62, Tryd.ntmps62
  go_wp2
  go_ret
  exact ⟨_, _, rfl, HS.out, HO.out⟩

/-- What is asked of a leaf, and of a branch. -/
def leafEnt (N : Value) (n : Nat) : Value := .agg #[.int .i64 n, .func (.func 59) #[N] #[], .func (.func 60) #[N] #[], .func (.func 61) #[N] #[]]
def kidsEnt (N : Value) (n : Nat) : Value := .agg #[.int .i64 n, .func (.func 62) #[N] #[], .func (.func 63) #[N] #[], .func (.func 64) #[N] #[]]
theorem ent0 (n : Int) (f1 f2 f3 : Fn) (x1 y1 x2 y2 x3 y3 : Array Value) (W : World) : (Instr.field 74 (.agg #[.int .i64 n, .func f1 x1 y1, .func f2 x2 y2, .func f3 x3 y3]) 0).run Tryd.prog W = .ok (.int .i64 n) W := by kernel_rfl
theorem ent1 (n : Int) (f1 f2 f3 : Fn) (x1 y1 x2 y2 x3 y3 : Array Value) (W : World) : (Instr.field 74 (.agg #[.int .i64 n, .func f1 x1 y1, .func f2 x2 y2, .func f3 x3 y3]) 1).run Tryd.prog W = .ok (.func f1 x1 y1) W := by kernel_rfl
set_option maxHeartbeats 1600000 in
theorem entries_leaf : Calls Tryd.prog 31 #[.agg #[.bool true, .slice A n c, .slice B m d]] w (Told w (leafEnt (.agg #[.bool true, .slice A n c, .slice B m d]) n)) := by
  have hmf : ∀ (fn : Fn) (first cap : Array Value) (w : World), (Instr.makeFunc fn first cap).run Tryd.prog w = .ok (.func fn first cap) w := fun _ _ _ _ => rfl
  go_enter Tryd.func31, Tryd.ntmps31
  go_wp2
  exact bodyPost_ret (v := leafEnt (.agg #[.bool true, .slice A n c, .slice B m d]) n) (by simp [results, Tryd.results31, go_sem, leafEnt]) rfl ⟨rfl, ((Only.refl _ w).alloc (fun _ h => h) _).alloc (fun _ h => h) _⟩
set_option maxHeartbeats 1600000 in
theorem entries_kids : Calls Tryd.prog 31 #[.agg #[.bool false, .slice A n c, .slice B m d]] w (Told w (kidsEnt (.agg #[.bool false, .slice A n c, .slice B m d]) m)) := by
  have hmf : ∀ (fn : Fn) (first cap : Array Value) (w : World), (Instr.makeFunc fn first cap).run Tryd.prog w = .ok (.func fn first cap) w := fun _ _ _ _ => rfl
  go_enter Tryd.func31, Tryd.ntmps31
  go_wp2
  exact bodyPost_ret (v := kidsEnt (.agg #[.bool false, .slice A n c, .slice B m d]) m) (by simp [results, Tryd.results31, go_sem, kidsEnt]) rfl ⟨rfl, ((Only.refl _ w).alloc (fun _ h => h) _).alloc (fun _ h => h) _⟩
end
end Go.Proofs.YtjbbljnfgpggkaaDoor
