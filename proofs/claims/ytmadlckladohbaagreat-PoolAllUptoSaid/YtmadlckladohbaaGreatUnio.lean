/-
  Union of the program.
-/
import Derived.Test.YtmadlckladohbaaGreatSort
set_option linter.unusedVariables false
namespace Go.Proofs.YtmadlckladohbaaGreat
open Go.RowKit

theorem OwnN.weaken {w : World} {B B' n : Nat} {v : Value} {l : List R} (h : OwnN w B v n l) (hB : B' ≤ B) : OwnN w B' v n l := by
  obtain ⟨h1, h2, h3⟩ := h
  refine ⟨h1, h2, ?_⟩
  rcases h3 with ⟨e1, e2⟩ | ⟨g, cap, cur, e1, e2, e3⟩
  · exact .inl ⟨e1, e2⟩
  · exact .inr ⟨g, cap, cur, e1, by omega, e3⟩
theorem OwnN.slice {w : World} {B n : Nat} {v : Value} {l : List R} (h : OwnN w B v n l) : ∃ A c, v = .slice A n c := by
  rcases Joins.ownsRow_forms h.2 with ⟨rfl, rfl⟩ | ⟨g, cap, rfl⟩ <;> exact ⟨_, _, rfl⟩
theorem OwnN.row {w : World} {B n : Nat} {v : Value} {l : List R} (h : OwnN w B v n l) : Row w v l := h.own.row
/-- A row that is known, as a slice value. -/
def KnownRow (w : World) (l : List R) (e : Ending) (w' : World) : Prop := (∃ A n c, e = .returned (.slice A n c) ∧ Row w' (.slice A n c) (known l)) ∧ Only (w.heap.size ≤ ·) w w'
theorem knowsRow_c (w : World) (v : Value) (l : List R) (h : Row w v l) (hr : ∀ x ∈ l, I64 x) : Calls Tryz.prog 46 #[v] w (KnownRow w l) := by
  obtain ⟨A, c, rfl, hs, hA, hn, hc⟩ := h
  refine (known_c w A _ c l hs rfl hr hn hc).mono fun e w' ⟨he, ho⟩ => ⟨?_, ho⟩
  by_cases hri : right l = true
  · rw [if_pos hri] at he
    exact ⟨_, _, _, he, A, c, by rw [known_of hri], by rw [known_of hri]; exact hs.later ho, hA, by rw [known_of hri]; exact hn, hc⟩
  · rw [if_neg hri] at he
    have hk := known_not (by simpa using hri : right l = false)
    exact ⟨_, _, _, he, by rw [hk]; exact Row.nil_ _⟩

/-- What has been laid of a row. -/
def LaidOf (s : List R) (k : Nat) (u : List R) : Prop := right u = true ∧ (∀ p, inn u p = true ↔ inn (s.take k) p = true) ∧ ∀ r, u.getLast? = some r → ∀ y ∈ s.drop k, r.1 ≤ y.1
theorem LaidOf.start (s : List R) : LaidOf s 0 [] := ⟨rfl, fun p => by simp [inn], fun r h => by simp at h⟩
theorem LaidOf.step {s : List R} {k : Nat} {x : R} {u : List R} (h : LaidOf s k u) (hs : s.Pairwise fun x y => x.1 ≤ y.1) (hx : s[k]? = some x) (hm : may x = true) : LaidOf s (k + 1) (lay u x) := by
  obtain ⟨h1, h2, h3⟩ := h
  have hd := drop_at hx
  obtain ⟨k1, k2, k3⟩ := lay_right h1 hm fun r hr => h3 r hr x (by rw [hd]; simp)
  refine ⟨k1, fun p => ?_, fun r hr y hy => ?_⟩
  · rw [k2, h2, inn_snoc hx, Bool.or_eq_true, decide_eq_true_eq]
    rfl
  · have hp : (s.drop k).Pairwise fun x y => x.1 ≤ y.1 := hs.sublist (List.drop_sublist _ _)
    rw [hd, List.pairwise_cons] at hp
    have := hp.1 y hy
    have := k3 r hr
    omega
theorem LaidOf.done {s u : List R} (h : LaidOf s s.length u) : IsRow u (fun p => inn s p = true) := ⟨h.1, fun p => by rw [h.2.1, List.take_length]⟩
theorem inn_perm {s t : List R} (h : s.Perm t) (p : Int) : inn s p = true ↔ inn t p = true := by
  rw [inn_iff, inn_iff]
  exact ⟨fun ⟨x, h1, h2⟩ => ⟨x, h.mem_iff.1 h1, h2⟩, fun ⟨x, h1, h2⟩ => ⟨x, h.mem_iff.2 h1, h2⟩⟩

def UnionSays (w : World) (a b : List R) (e : Ending) (w' : World) : Prop := ∃ v n u, e = .returned v ∧ OwnN w' w.heap.size v n u ∧ IsRow u (fun p => Mem a p ∨ Mem b p) ∧ Only (w.heap.size ≤ ·) w w'

set_option maxRecDepth 100000 in
set_option maxHeartbeats 6400000 in
theorem Union_c (w : World) (v u : Value) (a b : List R) (h : Row w v a) (h' : Row w u b) (hra : ∀ x ∈ a, I64 x) (hrb : ∀ x ∈ b, I64 x) :
    Calls Tryz.prog 41 #[v, u] w (UnionSays w a b) := by
  have HK := Lib.hid (knowsRow_c w v a h hra)
  have HK' : Hid (∀ W : World, Only (w.heap.size ≤ ·) w W → Calls Tryz.prog 46 #[u] W (KnownRow W b)) := fun W hW => knowsRow_c W u b (h'.later hW) hrb
  have HLN : Hid ((known a).length ≤ 32768 ∧ (known b).length ≤ 32768) := ⟨right_length (known_right a), right_length (known_right b)⟩
  have HCC : Hid (∀ (W : World) (v1 v2 : Value), Row W v1 (known a) → Row W v2 (known b) → Calls Tryz.prog 58 #[.slice (some ⟨W.heap.size, 0, none⟩) 2 2] (W.alloc (.cells #[v1, v2] 33)) (Owns (W.alloc (.cells #[v1, v2] 33)) (known a ++ known b))) := fun W v1 v2 h1 h2 => by
    have hO := (Only.refl _ W).alloc (F := (W.heap.size ≤ ·)) (fun _ h => h) (.cells #[v1, v2] 33)
    have := Concat_c (W.alloc (.cells #[v1, v2] 33)) W.heap.size [(v1, known a), (v2, known b)] rfl (Blk.new W 33 [v1, v2]) (fun x hx => by
      simp only [List.mem_cons, List.not_mem_nil, or_false] at hx
      rcases hx with rfl | rfl
      · exact ⟨h1.later hO, by have := HLN.out; simp only; omega⟩
      · exact ⟨h2.later hO, by have := HLN.out; simp only; omega⟩)
    simpa [flat] using this
  have HM : Hid (∀ x ∈ known a ++ known b, may x = true) := fun x hx => by
    rcases List.mem_append.1 hx with hx | hx
    · exact right_may (known_right a) x hx
    · exact right_may (known_right b) x hx
  have HMEM : Hid (∀ p, inn (known a ++ known b) p = true ↔ Mem a p ∨ Mem b p) := fun p => inn_append _ _ _
  have HLL : Hid ((known a ++ known b).length ≤ 65536) := by show _ ≤ _; rw [List.length_append]; have := HLN.out; omega
  clear h h' hra hrb
  go_enter Tryz.func41, Tryz.ntmps41
  go_wp2_with (first | (go_at_call 46; (with_reducible refine HK.out.mono ?_); rintro e w1 ⟨⟨A1, n1, c1, rfl, hv1⟩, ho1⟩; have HO1 := Lib.hid ho1; have HV1 := Lib.hid hv1; clear ho1 hv1) | (go_at_call 46; refine (HK'.out _ HO1.out).mono ?_; rintro e w2 ⟨⟨A2, n2, c2, rfl, hv2⟩, ho2⟩; have HO2 := Lib.hid (on_new HO1.out ho2); have HV2 := Lib.hid hv2; have HV12 := Lib.hid (HV1.out.later ho2); clear ho2 hv2) | (go_at_call 58; refine (HCC.out w2 _ _ HV12.out HV2.out).mono ?_; rintro e w3 ⟨vc, n, rfl, hc, ho3⟩; obtain ⟨Ac, cc, rfl⟩ := hc.slice; have HC := Lib.hid hc; have HO3 := Lib.hid (on_new (HO2.out.alloc (fun _ h => h) (.cells #[.slice A1 n1 c1, .slice A2 n2 c2] 33)) ho3); have HS3 := Lib.hid ho3.size; clear hc ho3) | (go_at_call 59; refine (SortFunc_c w3 _ n _ _ HC.out HS3.out (by have := HC.out.1; have := HLL.out; omega)).mono ?_; rintro e w4 ⟨rfl, s, hp, hsd, hs, ho4⟩; have HP := Lib.hid hp; have HSD := Lib.hid hsd; have HS := Lib.hid hs; have HO4 := Lib.hid ho4; clear hp hsd hs ho4))
  have hsz := HO2.out.size
  have hB : w.heap.size ≤ (w2.alloc (.cells #[.slice A1 n1 c1, .slice A2 n2 c2] 33)).heap.size := by simp; omega
  have HO5 : Hid (Only (w.heap.size ≤ ·) w w4) := HO3.out.trans (HO4.out.mono fun k hk => Nat.le_trans hB hk)
  have HRS := Lib.hid HS.out.rs
  have hn6 : n ≤ 65536 := by have := HC.out.1; have := HLL.out; omega
  have HSM : Hid (∀ x ∈ s, may x = true) := fun x hx => HM.out x (HP.out.mem_iff.1 hx)
  clear hsz hB
  go_loopw [6, 19] (fun q i wr => ∃ (k N : Nat) (val : Value) (uu : List R), k ≤ n ∧ q = val ∧ i = .int .i64 k ∧ Hid (OwnN wr w4.heap.size val N uu) ∧ Hid (LaidOf s k uu) ∧ Only (w4.heap.size ≤ ·) w4 wr) (fun _ i _ => n - (intOf i).toNat)
  case atStart => exact ⟨0, 0, _, [], Nat.zero_le _, rfl, rfl, ⟨rfl, World.ownsRow_nil _ _ _ _⟩, LaidOf.start s, Only.refl _ _⟩
  case round =>
    obtain ⟨k, N, val, uu, hk, rfl, rfl, HW, HLA, ho⟩ := hrel
    have HO := Lib.hid ho
    clear ho
    by_cases hlt : k < n
    · obtain ⟨g, off, x, rfl, hg, hx, hc1, hc2⟩ := (HRS.out.1.later HO.out).at_ (k := k) (by rw [← HS.out.1]; exact hlt)
      have HX := Lib.hid hx
      have HMX := Lib.hid (HSM.out x (List.mem_of_getElem? hx))
      obtain ⟨x1, x2⟩ := x
      clear hx
      have HOX : Hid (Only (wr.heap.size ≤ ·) wr (wr.alloc (.cells #[.int .i64 x1, .int .i64 x2] 54))) := (Only.refl _ wr).alloc (fun _ h => h) _
      have HWX := Lib.hid (HW.out.later HOX.out)
      have HB4 : Hid (w4.heap.size ≤ (wr.alloc (.cells #[.int .i64 x1, .int .i64 x2] 54)).heap.size) := Nat.le_trans HO.out.size HOX.out.size
      go_wp2_with (go_at_call 62; refine (lay_c _ _ _ N uu (x1, x2) HWX.out HB4.out HLA.out.1 HMX.out).mono ?_; rintro e w6 ⟨v6, n6, rfl, hv6, ho6⟩; have HV6 := Lib.hid hv6; have HO6 := Lib.hid ((HO.out.alloc (fun _ h => h) (.cells #[.int .i64 x1, .int .i64 x2] 54)).trans ho6); clear hv6 ho6)
      go_roundw
      case rel => exact ⟨k + 1, n6, _, _, by omega, rfl, by go_num, HV6, Lib.hid (HLA.out.step HSD.out HX.out HMX.out), HO6.out⟩
      case measure => simp [intOf]; omega
    · obtain rfl : k = n := by omega
      have hkm : ¬ (k : Int) < (k : Int) := by omega
      go_wp2
      go_ret
      refine ⟨_, N, uu, rfl, HW.out.weaken HO5.out.size, ?_, on_new HO5.out HO.out⟩
      have hlen := HS.out.1
      have hL := HLA.out
      rw [hlen] at hL
      exact hL.done.congr fun p => (inn_perm HP.out p).trans (HMEM.out p)
end Go.Proofs.YtmadlckladohbaaGreat
