/-
  Path and Edge.
-/
import Derived.Test.YtnjhpjpeeehagaaTdw
import Derived.Test.YtnjhpjpeeehagaaFnd
set_option linter.unusedVariables false
namespace Go.Proofs.Ytnjhpjpeeehagaa
open Go.RowKit

/-- The kid under which a key is, among the first so many. -/
def sideN (l : List Kd) (key : Bytes) : Nat → Nat
  | 0 => 0
  | k + 1 => if 0 < k ∧ ∃ y, l[k]? = some y ∧ cmp y.1 key ≤ 0 then k else sideN l key k
theorem sideN_le (l : List Kd) (key : Bytes) : ∀ k, 0 < k → sideN l key k < k
  | 0, h => by omega
  | k + 1, _ => by
    unfold sideN
    split
    · omega
    · rcases Nat.eq_zero_or_pos k with rfl | hk
      · show sideN l key 0 < 1
        unfold sideN
        omega
      · have := sideN_le l key k hk
        omega
def findP (l : List It) (key : Bytes) : Nat := l.countP fun y => decide (cmp y.1 key < 0)
def hasP (l : List It) (key : Bytes) : Bool := l.any fun y => decide (cmp y.1 key = 0)
/-- The keys rise. -/
def RiseI (l : List It) : Prop := ∀ (k : Nat) (y z : It), l[k]? = some y → l[k + 1]? = some z → cmp y.1 z.1 < 0
theorem cmp_lt {a b c : Bytes} (h1 : cmp a b < 0) (h2 : cmp b c < 0) : cmp a c < 0 := by
  have h3 := cmp_trans a b c (by omega) (by omega)
  rcases Int.lt_or_eq_of_le h3 with h | h
  · exact h
  · have := cmp_eq_zero h
    subst this
    have := cmp_flip a b
    omega
theorem RiseI.lt {l : List It} (h : RiseI l) : ∀ {j i : Nat} {y z : It}, i < j → l[i]? = some y → l[j]? = some z → cmp y.1 z.1 < 0
  | 0, i, y, z, hij, _, _ => by omega
  | j + 1, i, y, z, hij, hy, hz => by
    rcases Nat.lt_or_ge i j with h1 | h1
    · obtain ⟨u, hu⟩ : ∃ u, l[j]? = some u := ⟨_, List.getElem?_eq_getElem (by have := (List.getElem?_eq_some_iff.1 hz).1; omega)⟩
      exact cmp_lt (RiseI.lt h h1 hy hu) (h j u z hu hz)
    · obtain rfl : i = j := by omega
      exact h i y z hy hz
theorem countP_first {α : Type} {p : α → Bool} : ∀ {l : List α} {i : Nat}, i ≤ l.length → (∀ (k : Nat) y, k < i → l[k]? = some y → p y = true) → (∀ (k : Nat) y, i ≤ k → l[k]? = some y → p y = false) → l.countP p = i
  | [], i, h, _, _ => by
    simp at h
    subst h
    rfl
  | x :: l, 0, _, _, h2 => by
    rw [List.countP_cons, h2 0 x (Nat.zero_le _) rfl, countP_first (Nat.zero_le _) (fun k y h => by omega) fun k y _ hy => h2 (k + 1) y (Nat.zero_le _) hy]
    simp
  | x :: l, i + 1, h, h1, h2 => by
    rw [List.countP_cons, h1 0 x (Nat.succ_pos _) rfl, countP_first (by simpa using h) (fun k y hk hy => h1 (k + 1) y (by omega) hy) fun k y hk hy => h2 (k + 1) y (by omega) hy]
    simp
theorem found_is {l : List It} {key : Bytes} {i : Nat} {f : Bool} (hr : RiseI l) (h : Found l key i f) : i = findP l key ∧ f = hasP l key := by
  obtain ⟨h1, h2, h3, h4⟩ := h
  have lo : ∀ (k : Nat) y, k < i → l[k]? = some y → cmp y.1 key < 0 := fun k y hk hy => by
    rcases h2 with rfl | ⟨z, hz, hc⟩
    · omega
    · rcases Nat.lt_or_ge k (i - 1) with h5 | h5
      · exact cmp_lt (hr.lt h5 hy hz) hc
      · obtain rfl : k = i - 1 := by omega
        rw [hy] at hz
        cases hz
        exact hc
  have hi : ∀ (k : Nat) y, i < k → l[k]? = some y → 0 < cmp y.1 key := fun k y hk hy => by
    rcases h3 with rfl | ⟨z, hz, hc⟩
    · have := (List.getElem?_eq_some_iff.1 hy).1
      omega
    · have h6 := hr.lt hk hz hy
      rcases Int.lt_or_le 0 (cmp y.1 key) with h7 | h7
      · exact h7
      · exfalso
        rcases Int.lt_or_eq_of_le h7 with h8 | h8
        · have := cmp_lt h6 h8
          omega
        · rw [cmp_eq_zero h8] at h6
          omega
  have he : ∀ y, l[i]? = some y → 0 ≤ cmp y.1 key := fun y hy => by
    rcases h3 with rfl | ⟨z, hz, hc⟩
    · have := (List.getElem?_eq_some_iff.1 hy).1
      omega
    · rw [hy] at hz
      cases hz
      exact hc
  refine ⟨(countP_first h1 (fun k y hk hy => decide_eq_true (lo k y hk hy)) fun k y hk hy => decide_eq_false ?_).symm, ?_⟩
  · rcases Nat.lt_or_ge i k with h5 | h5
    · have := hi k y h5 hy
      omega
    · obtain rfl : k = i := by omega
      have := he y hy
      omega
  · rw [Bool.eq_iff_iff, h4]
    unfold hasP
    rw [List.any_eq_true]
    constructor
    · rintro ⟨y, hy, hc⟩
      exact ⟨y, List.mem_of_getElem? hy, decide_eq_true hc⟩
    · rintro ⟨y, hm, hc⟩
      have hc := of_decide_eq_true hc
      obtain ⟨k, hk⟩ := List.getElem?_of_mem hm
      rcases Nat.lt_trichotomy k i with h5 | rfl | h5
      · have := lo k y h5 hk
        omega
      · exact ⟨y, hk, hc⟩
      · have := hi k y h5 hk
        omega

set_option maxRecDepth 100000 in
set_option maxHeartbeats 6400000 in
theorem Side_c (w : World) (f : Bool) (A B : Option Addr) (n c m d : Nat) (x : Nd) (v : Value) (key : Bytes) (hN : Nod w x f (.slice A n c) (.slice B m d)) (hv : Src w v key) (hm : m ≤ 1000) :
    Calls Try.prog 46 #[.agg #[.bool f, .slice A n c, .slice B m d], v] w (Told w (.int .i64 (sideN x.kds key m : Int))) := by
  obtain ⟨w1, hw1⟩ : ∃ w1, w1 = w.alloc (.cells #[.bool f, .slice A n c, .slice B m d] 55) := ⟨_, rfl⟩
  obtain ⟨b1, hb1⟩ : ∃ b1, b1 = w.heap.size := ⟨_, rfl⟩
  have HB : Hid (Blk w1 b1 55 [.bool f, .slice A n c, .slice B m d]) := Lib.hid (by rw [hw1, hb1]; exact Blk.new w _ [.bool f, .slice A n c, .slice B m d])
  have HO : Hid (Only (w.heap.size ≤ ·) w w1) := Lib.hid (by rw [hw1]; exact (Only.refl _ w).alloc (fun _ h => h) _)
  have HEQ : Hid (w1 = w.alloc (.cells #[.bool f, .slice A n c, .slice B m d] 55) ∧ b1 = w.heap.size) := Lib.hid ⟨hw1, hb1⟩
  have HN := Lib.hid (hN.later HO.out)
  have HV := Lib.hid (hv.later HO.out)
  clear hw1 hb1 hN hv
  go_enter Try.func46, Try.ntmps46
  go_upto_region 1 with (fail)
  rw [← HEQ.out.1, ← HEQ.out.2]
  obtain ⟨q0, q1, q2⟩ := HB.out.tri
  go_wp2_with (fail)
  go_loopg [5] m (fun gk i wr => ∃ k : Int, gk = (k + 1).toNat ∧ -1 ≤ k ∧ k < m ∧ i = .int .i64 k ∧ wr = w1 ∧ Hid (sideN x.kds key m = sideN x.kds key (k + 1).toNat))
  case atStart => exact ⟨(m : Int) - 1, by omega, by omega, by omega, by go_num, rfl, Lib.hid (by rw [show ((m : Int) - 1 + 1).toNat = m by omega])⟩
  case round =>
    obtain ⟨k, rfl, hk1, hk2, rfl, rfl, HS⟩ := hrel
    by_cases hlt : 0 < k
    · obtain ⟨k, rfl⟩ : ∃ j : Nat, k = j := ⟨k.toNat, by omega⟩
      have hkm : k < m := by omega
      obtain ⟨b, off, y, P, p, rfl, hb, hy, c0, c1, hs⟩ := kds_at HN.out.2.2 hkm
      have HY := Lib.hid hy
      have HKS := Lib.hid hs
      obtain ⟨yk, yr⟩ := y
      simp only at c0 c1 hs HKS
      obtain ⟨z, hz⟩ : ∃ z, z = cmp yk key := ⟨_, rfl⟩
      have HC : Hid (Calls Try.prog 23 #[.slice P yk.length p, v] wr fun e w' => e = .returned (.int .i64 z) ∧ wr = w') := by rw [hz]; exact Compare_c _ _ _ yk key hs HV.out
      have HZ := Lib.hid hz
      clear hy hs hz
      rw [show ((k : Int) + 1).toNat = k + 1 by omega] at HS
      by_cases hle : z ≤ 0
      · have HF : Hid (sideN x.kds key m = k) := Lib.hid (by rw [HS.out, sideN, if_pos ⟨by omega, (yk, yr), HY.out, by rw [← HZ.out]; exact hle⟩])
        go_wp2_with (go_at_call 23; (refine HC.out.mono ?_); rintro e w' ⟨rfl, rfl⟩)
        go_ret
        exact ⟨by rw [HF.out]; rfl, HO.out⟩
      · have HF : Hid (sideN x.kds key m = sideN x.kds key k) := Lib.hid (by
          rw [HS.out, sideN, if_neg]
          rintro ⟨_, y', hy', hc⟩
          rw [HY.out] at hy'
          cases hy'
          rw [← HZ.out] at hc
          exact hle hc)
        go_wp2_with (go_at_call 23; (refine HC.out.mono ?_); rintro e w' ⟨rfl, rfl⟩)
        go_roundg k
        case measure => omega
        case rel => exact ⟨(k : Int) - 1, by omega, by omega, by omega, by go_num, rfl, Lib.hid (by rw [HF.out, show ((k : Int) - 1 + 1).toNat = k by omega])⟩
    · have HF : Hid (sideN x.kds key m = 0) := Lib.hid (by
        rw [HS.out]
        rcases (show k = -1 ∨ k = 0 by omega) with rfl | rfl
        · rfl
        · show sideN x.kds key 1 = 0
          unfold sideN
          rw [if_neg (fun h => Nat.lt_irrefl 0 h.1)]
          rfl)
      go_wp2_with (fail)
      go_ret
      exact ⟨by rw [HF.out]; rfl, HO.out⟩
/-- How Path chooses: by a key. -/
def chP (key : Bytes) (x : Nd) : Nat := if x.leaf = true then findP x.its key else sideN x.kds key x.kds.length
def okP (x : Nd) : Prop := x.leaf = true → RiseI x.its
/-- How Edge chooses: the first, or the last. -/
def chE (last : Bool) (x : Nd) : Nat := if last = false then 0 else if x.leaf = true then x.its.length - 1 else x.kds.length - 1

set_option maxRecDepth 100000 in
set_option maxHeartbeats 6400000 in
theorem path1_c (w : World) (f : Bool) (A B : Option Addr) (n c m d bk : Nat) (x : Nd) (K : Option Addr) (kn kc : Nat) (key : Bytes) (hN : Nod w x f (.slice A n c) (.slice B m d)) (hs : Sml x) (hk : Blk w bk 34 [.slice K kn kc]) (hv : Src w (.slice K kn kc) key) (hok : okP x) :
    Calls Try.prog 44 #[.agg #[.bool f, .slice A n c, .slice B m d], .pointer (some ⟨bk, 0, none⟩)] w (Told w (.int .i64 (chP key x : Int))) := by
  obtain ⟨w1, hw1⟩ : ∃ w1, w1 = w.alloc (.cells #[.bool f, .slice A n c, .slice B m d] 55) := ⟨_, rfl⟩
  obtain ⟨b1, hb1⟩ : ∃ b1, b1 = w.heap.size := ⟨_, rfl⟩
  have HB : Hid (Blk w1 b1 55 [.bool f, .slice A n c, .slice B m d]) := Lib.hid (by rw [hw1, hb1]; exact Blk.new w _ [.bool f, .slice A n c, .slice B m d])
  have HO : Hid (Only (w.heap.size ≤ ·) w w1) := Lib.hid (by rw [hw1]; exact (Only.refl _ w).alloc (fun _ h => h) _)
  have HEQ : Hid (w1 = w.alloc (.cells #[.bool f, .slice A n c, .slice B m d] 55) ∧ b1 = w.heap.size) := Lib.hid ⟨hw1, hb1⟩
  have HN := Lib.hid (hN.later HO.out)
  have HV := Lib.hid (hv.later HO.out)
  have HK := Lib.hid (hk.later HO.out)
  have HNL : Hid (n = x.its.length ∧ m = x.kds.length ∧ f = x.leaf) := Lib.hid ⟨hN.2.1.len, hN.2.2.len, hN.1⟩
  have hn1 : n ≤ 1000 := by rw [HNL.out.1]; exact hs.1
  have hm1 : m ≤ 1000 := by rw [HNL.out.2.1]; exact hs.2.1
  have HOK := Lib.hid hok
  clear hw1 hb1 hN hv hk hs hok
  go_enter Try.func44, Try.ntmps44
  go_upto_region 1 with (fail)
  rw [← HEQ.out.1, ← HEQ.out.2]
  obtain ⟨q0, q1, q2⟩ := HB.out.tri
  have k0 := HK.out.cell 0
  cases f with
  | true =>
    have HCH : Hid (chP key x = findP x.its key) := Lib.hid (by unfold chP; rw [if_pos HNL.out.2.2.symm])
    go_wp2_with (go_at_call 45; ((with_reducible refine (Find_n _ true A B n c m d _ x key HN.out HV.out (by omega)).mono ?_); rintro e w2 ⟨i, b, rfl, hf, ho⟩; obtain ⟨hi, _⟩ := found_is (HOK.out HNL.out.2.2.symm) hf; have HI := Lib.hid hi; have HO2 := Lib.hid (on_new HO.out ho); clear hf hi ho))
    go_ret
    exact ⟨by rw [HCH.out, ← HI.out]; rfl, HO2.out⟩
  | false =>
    have HCH : Hid (chP key x = sideN x.kds key m) := Lib.hid (by unfold chP; rw [if_neg (fun h => by rw [← HNL.out.2.2] at h; cases h), HNL.out.2.1])
    go_wp2_with (go_at_call 46; (with_reducible refine (Side_c _ false A B n c m d x _ key HN.out HV.out (by omega)).mono ?_); rintro e w2 ⟨rfl, ho⟩; have HO2 := Lib.hid (on_new HO.out ho); clear ho)
    go_ret
    exact ⟨by rw [HCH.out]; rfl, HO2.out⟩
set_option maxRecDepth 100000 in
set_option maxHeartbeats 6400000 in
theorem edge1_c (w : World) (f : Bool) (A B : Option Addr) (n c m d bk : Nat) (x : Nd) (last : Bool) (hN : Nod w x f (.slice A n c) (.slice B m d)) (hs : Sml x) (hk : Blk w bk 4 [.bool last]) (hor : x.leaf = true ∨ x.kds ≠ []) :
    Calls Try.prog 41 #[.agg #[.bool f, .slice A n c, .slice B m d], .pointer (some ⟨bk, 0, none⟩)] w (Told w (.int .i64 (chE last x : Int))) := by
  obtain ⟨w1, hw1⟩ : ∃ w1, w1 = w.alloc (.cells #[.bool f, .slice A n c, .slice B m d] 55) := ⟨_, rfl⟩
  obtain ⟨b1, hb1⟩ : ∃ b1, b1 = w.heap.size := ⟨_, rfl⟩
  have HB : Hid (Blk w1 b1 55 [.bool f, .slice A n c, .slice B m d]) := Lib.hid (by rw [hw1, hb1]; exact Blk.new w _ [.bool f, .slice A n c, .slice B m d])
  have HO : Hid (Only (w.heap.size ≤ ·) w w1) := Lib.hid (by rw [hw1]; exact (Only.refl _ w).alloc (fun _ h => h) _)
  have HEQ : Hid (w1 = w.alloc (.cells #[.bool f, .slice A n c, .slice B m d] 55) ∧ b1 = w.heap.size) := Lib.hid ⟨hw1, hb1⟩
  have HK := Lib.hid (hk.later HO.out)
  have HNL : Hid (n = x.its.length ∧ m = x.kds.length ∧ f = x.leaf) := Lib.hid ⟨hN.2.1.len, hN.2.2.len, hN.1⟩
  have hn1 : n ≤ 1000 := by rw [HNL.out.1]; exact hs.1
  have hm1 : m ≤ 1000 := by rw [HNL.out.2.1]; exact hs.2.1
  have HOR := Lib.hid hor
  clear hw1 hb1 hN hk hs hor
  go_enter Try.func41, Try.ntmps41
  go_upto_region 1 with (fail)
  rw [← HEQ.out.1, ← HEQ.out.2]
  obtain ⟨q0, q1, q2⟩ := HB.out.tri
  have k0 := HK.out.cell 0
  cases last with
  | false =>
    go_wp2_with (fail)
    go_ret
    exact ⟨rfl, HO.out⟩
  | true =>
    cases f with
    | true =>
      have HCH : Hid (chE true x = n - 1) := Lib.hid (by unfold chE; rw [if_neg (by simp), if_pos HNL.out.2.2.symm, HNL.out.1])
      have hmx : max ((n : Int) - 1) 0 = ((n - 1 : Nat) : Int) := by omega
      have hwr : IntKind.i64.wrap ((n : Int) - 1) = (n : Int) - 1 := IntWalk.i64_in _ (by omega)
      go_wp2_with (fail)
      go_ret
      exact ⟨by rw [HCH.out, ← hmx]; first | rfl | simp [hwr], HO.out⟩
    | false =>
      have hm2 : 0 < m := by
        rw [HNL.out.2.1]
        rcases HOR.out with h | h
        · rw [← HNL.out.2.2] at h; cases h
        · exact List.length_pos_iff.2 h
      have HCH : Hid (chE true x = m - 1) := Lib.hid (by unfold chE; rw [if_neg (by simp), if_neg (fun h => by rw [← HNL.out.2.2] at h; cases h), HNL.out.2.1])
      have hwr : IntKind.i64.wrap ((m : Int) - 1) = (m : Int) - 1 := IntWalk.i64_in _ (by omega)
      have hmx : ((m - 1 : Nat) : Int) = (m : Int) - 1 := by omega
      go_wp2_with (fail)
      go_ret
      exact ⟨by rw [HCH.out, hmx]; first | rfl | simp [hwr], HO.out⟩

set_option maxRecDepth 100000 in
theorem Path_c (w : World) (bl : Nat) (A0 : Option Addr) (n0 c0 : Nat) (root : Int) (l : List Nm) (K : Option Addr) (kn kc : Nat) (key : Bytes) (hb : Blk w bl 22 [.slice A0 n0 c0]) (h : Nms w (.slice A0 n0 c0) l) (hf : FewN l) (hv : Src w (.slice K kn kc) key) (hok : ∀ ref x, Vis l root ref → nodeP l ref = some x → okP x) :
    Calls Try.prog 33 #[srcV bl, .int .i64 root, .slice K kn kc] w (DownSays w (downP l (chP key) 12 root)) := by
  have hmf : ∀ (fn : Fn) (first cap : Array Value) (w : World), (Instr.makeFunc fn first cap).run Try.prog w = .ok (.func fn first cap) w := fun _ _ _ _ => rfl
  obtain ⟨w1, hw1⟩ : ∃ w1, w1 = w.alloc (.cells #[.slice K kn kc] 34) := ⟨_, rfl⟩
  obtain ⟨b1, hb1⟩ : ∃ b1, b1 = w.heap.size := ⟨_, rfl⟩
  have hk : Blk w1 b1 34 [.slice K kn kc] := by rw [hw1, hb1]; exact Blk.new w _ [.slice K kn kc]
  have ho : Only (w.heap.size ≤ ·) w w1 := by rw [hw1]; exact (Only.refl _ w).alloc (fun _ h => h) _
  have HO := Lib.hid ho
  have HD := Lib.hid (down_c w1 bl A0 n0 c0 root l 44 #[.pointer (some ⟨b1, 0, none⟩)] (chP key) (hb.later ho) (h.later ho) hf (ok := okP)
    ⟨fun _ _ => rfl, fun W hW x f A n c B m d hN hs _ hok => path1_c W f A B n c m d b1 x K kn kc key hN hs (hk.later hW) ((hv.later ho).later hW) hok, fun x h1 h2 => by
      unfold chP
      rw [if_neg (fun h => by rw [h1] at h; cases h)]
      exact sideN_le _ _ _ (List.length_pos_iff.2 h2)⟩ hok)
  have HEQ : Hid (w1 = w.alloc (.cells #[.slice K kn kc] 34) ∧ b1 = w.heap.size) := Lib.hid ⟨hw1, hb1⟩
  clear hw1 hb1 hk ho hb h hf hv hok
  go_enter Try.func33, Try.ntmps33
  go_upto_region 1 with (fail)
  rw [← HEQ.out.1, ← HEQ.out.2]
  go_wp2_with (go_at_call 40; (with_reducible refine HD.out.mono ?_); rintro e w2 ⟨⟨A, n, c, er, path, rfl, he, hp⟩, ho⟩; have HE := Lib.hid he; have HP := Lib.hid hp; have HO2 := Lib.hid (on_new HO.out ho); clear he hp ho)
  go_ret2
  exact ⟨⟨A, n, c, er, path, rfl, HE.out, HP.out⟩, HO2.out⟩
set_option maxRecDepth 100000 in
theorem Edge_c (w : World) (bl : Nat) (A0 : Option Addr) (n0 c0 : Nat) (root : Int) (l : List Nm) (last : Bool) (hb : Blk w bl 22 [.slice A0 n0 c0]) (h : Nms w (.slice A0 n0 c0) l) (hf : FewN l) :
    Calls Try.prog 30 #[srcV bl, .int .i64 root, .bool last] w (DownSays w (downP l (chE last) 12 root)) := by
  have hmf : ∀ (fn : Fn) (first cap : Array Value) (w : World), (Instr.makeFunc fn first cap).run Try.prog w = .ok (.func fn first cap) w := fun _ _ _ _ => rfl
  obtain ⟨w1, hw1⟩ : ∃ w1, w1 = w.alloc (.cells #[.bool last] 4) := ⟨_, rfl⟩
  obtain ⟨b1, hb1⟩ : ∃ b1, b1 = w.heap.size := ⟨_, rfl⟩
  have hk : Blk w1 b1 4 [.bool last] := by rw [hw1, hb1]; exact Blk.new w _ [.bool last]
  have ho : Only (w.heap.size ≤ ·) w w1 := by rw [hw1]; exact (Only.refl _ w).alloc (fun _ h => h) _
  have HO := Lib.hid ho
  have HD := Lib.hid (down_c w1 bl A0 n0 c0 root l 41 #[.pointer (some ⟨b1, 0, none⟩)] (chE last) (hb.later ho) (h.later ho) hf (ok := fun _ => True)
    ⟨fun _ _ => rfl, fun W hW x f A n c B m d hN hs hor _ => edge1_c W f A B n c m d b1 x last hN hs (hk.later hW) hor, fun x h1 h2 => by
      have := List.length_pos_iff.2 h2
      unfold chE
      split
      · exact this
      · rw [if_neg (fun h => by rw [h1] at h; cases h)]
        omega⟩ (fun _ _ _ _ => trivial))
  have HEQ : Hid (w1 = w.alloc (.cells #[.bool last] 4) ∧ b1 = w.heap.size) := Lib.hid ⟨hw1, hb1⟩
  clear hw1 hb1 hk ho hb h hf
  go_enter Try.func30, Try.ntmps30
  go_upto_region 1 with (fail)
  rw [← HEQ.out.1, ← HEQ.out.2]
  go_wp2_with (go_at_call 40; (with_reducible refine HD.out.mono ?_); rintro e w2 ⟨⟨A, n, c, er, path, rfl, he, hp⟩, ho⟩; have HE := Lib.hid he; have HP := Lib.hid hp; have HO2 := Lib.hid (on_new HO.out ho); clear he hp ho)
  go_ret2
  exact ⟨⟨A, n, c, er, path, rfl, HE.out, HP.out⟩, HO2.out⟩
end Go.Proofs.Ytnjhpjpeeehagaa
