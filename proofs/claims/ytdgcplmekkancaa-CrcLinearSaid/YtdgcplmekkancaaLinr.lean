/-
  CrcLinear: the walk.
-/
import Derived.Test.YtdgcplmekkancaaTurn
import Derived.BigRegion
import Derived.Laws.Cover1
import Derived.Deep.DeepCutAuto
set_option linter.unusedVariables false
namespace Go.Proofs.Ytdgcplmekkancaa
open Go.RowKit

theorem zip_zeros (q : Bytes) : List.zipWith (· ^^^ ·) (List.replicate q.length (0 : UInt8)) q = q := by
  induction q with
  | nil => rfl
  | cons x q ih => rw [List.length_cons, List.replicate_succ, List.zipWith_cons_cons, ih]; simp
theorem lin (p q : Bytes) (h : p.length = q.length) : sum p ^^^ sum q ^^^ sum (List.zipWith (· ^^^ ·) p q) ^^^ sum (List.replicate q.length 0) = 0 := by
  have h1 := sum_xor p q h
  have h2 := sum_xor (List.replicate q.length 0) q (by simp)
  rw [zip_zeros] at h2
  rw [h1, h2]
  generalize sum p = a
  generalize sum (List.replicate q.length 0) = b
  generalize run 0 q = c
  apply Nat.eq_of_testBit_eq
  intro i
  simp only [Nat.testBit_xor, Nat.zero_testBit]
  cases a.testBit i <;> cases b.testBit i <;> cases c.testBit i <;> rfl

theorem made5 (k : Nat) : madeCells (z8).cells k = (List.replicate k z8).toArray := by
  unfold madeCells
  apply Array.ext
  · simp
  · intro i h1 h2
    simp [Value.cells, z8, Nat.mod_one]
theorem mk5 (n : Nat) (hn : n ≤ 4294967296) (W : World) : (Instr.makeSlice 22 (.int .i64 (n : Int)) (.int .i64 (n : Int))).run Try.prog W = .ok (.slice (some ⟨W.heap.size, 0, none⟩) n n) (W.alloc (.cells (List.replicate n z8).toArray 5)) := by
  obtain ⟨i0, hi0, hz0, hz1, hz2⟩ := info_parts info5
  have hr := run_make (P := Try.prog) W 22 5 i0 _ Try.underlying22 hi0 hz0 .i64 .i64 n n (by omega) (by omega) (by rw [hz2]; omega) (by omega)
  simp only [Int.toNat_natCast] at hr
  rw [made5, hz1, Nat.mul_one] at hr
  exact hr

/-- The two rows of the law's own. -/
structure Two (w wr : World) (gx gy n : Nat) (p : Bytes) : Prop where
  x : Blk wr gx 5 (cb p)
  y : Blk wr gy 5 (cb (List.replicate n 0))
  only : Only (w.heap.size ≤ ·) w wr
  ne : gy ≠ gx
  base : w.heap.size ≤ gx
def mix (xs ys : Bytes) (n k : Nat) : Bytes := List.zipWith (· ^^^ ·) (xs.take k) (ys.take k) ++ List.replicate (n - k) 0
theorem mix_set (xs ys : Bytes) (n k : Nat) (x y : UInt8) (hx : xs[k]? = some x) (hy : ys[k]? = some y) (hk : k < n) : (mix xs ys n k).set k (x ^^^ y) = mix xs ys n (k + 1) := by
  have h1 := (List.getElem?_eq_some_iff.1 hx).1
  have h2 := (List.getElem?_eq_some_iff.1 hy).1
  unfold mix
  have hl : (List.zipWith (· ^^^ ·) (xs.take k) (ys.take k)).length = k := by simp; omega
  rw [List.set_append_right _ _ (by omega), hl, Nat.sub_self]
  rw [List.take_add_one, List.take_add_one, hx, hy, List.zipWith_append (by simp; omega)]
  rw [show n - k = (n - (k + 1)) + 1 by omega, List.replicate_succ]
  simp
theorem mix_end (xs ys : Bytes) (n : Nat) : mix xs ys n n = List.zipWith (· ^^^ ·) (xs.take n) (ys.take n) := by simp [mix]
theorem zs_cb (n : Nat) : cb (List.replicate n 0) = List.replicate n z8 := by simp [cb, z8]
theorem two_start (w : World) (n : Nat) (xs ys : Bytes) : Two w ((w.alloc (.cells (Array.replicate n z8) 5)).alloc (.cells (Array.replicate n z8) 5)).drew w.heap.size (w.heap.size + 1) n (mix xs ys n 0) ∧
    Two w ((w.alloc (.cells (Array.replicate n z8) 5)).alloc (.cells (Array.replicate n z8) 5)).drew (w.heap.size + 1) w.heap.size n (mix xs ys n 0) := by
  have e : mix xs ys n 0 = List.replicate n 0 := by simp [mix]
  have ea : (Array.replicate n z8) = (cb (List.replicate n 0)).toArray := by rw [zs_cb]; simp
  rw [e, ea]
  have h1 : Blk ((w.alloc (.cells (cb (List.replicate n 0)).toArray 5)).alloc (.cells (cb (List.replicate n 0)).toArray 5)).drew w.heap.size 5 (cb (List.replicate n 0)) := (Blk.new w 5 _).alloc _
  have h2 : Blk ((w.alloc (.cells (cb (List.replicate n 0)).toArray 5)).alloc (.cells (cb (List.replicate n 0)).toArray 5)).drew (w.heap.size + 1) 5 (cb (List.replicate n 0)) := by
    have := Blk.new (w.alloc (.cells (cb (List.replicate n 0)).toArray 5)) 5 (cb (List.replicate n 0))
    rw [show (w.alloc (.cells (cb (List.replicate n 0)).toArray 5)).heap.size = w.heap.size + 1 by simp] at this
    exact this
  have h3 : Only (w.heap.size ≤ ·) w ((w.alloc (.cells (cb (List.replicate n 0)).toArray 5)).alloc (.cells (cb (List.replicate n 0)).toArray 5)).drew := ((((Only.refl _ w).alloc (fun _ h => h) _).alloc (fun _ h => h) _)).drew
  exact ⟨⟨h1, h2, h3, by omega, Nat.le_refl _⟩, ⟨h2, h1, h3, by omega, by omega⟩⟩
theorem u8_xor_val (x y : UInt8) : bits .xor .u8 ((x.toNat : Nat) : Int) ((y.toNat : Nat) : Int) = (((x ^^^ y).toNat : Nat) : Int) := by
  rw [u8_xor_nat _ _ (u8_lt x) (u8_lt y), UInt8.toNat_xor]
theorem txt_blk {w : World} {g n : Nat} {xs : Bytes} (h : Blk w g 5 (cb xs)) (hn : xs.length = n) : Txt w (some ⟨g, 0, none⟩) n xs :=
  ⟨hn, fun _ => ⟨_, rfl, fun j u hu => by rw [Addr.add_mid, Nat.zero_add, h.cell]; exact hu⟩⟩

theorem Txt.shorter {w : World} {A : Option Addr} {n : Nat} {xs : Bytes} (h : Txt w A n xs) (a : Nat) (ha : a ≤ n) : Txt w A a (xs.take a) := by
  refine ⟨by rw [List.length_take, h.1]; omega, fun h0 => ?_⟩
  obtain ⟨ad, rfl, hc⟩ := h.2 (by omega)
  exact (Txt.take h a ha).2 h0

theorem min3 (x y n : Nat) (hn : n = min (min x y) 600) (W : World) : (Builtin.min_ #[3, 3, 3] 3 #[.int .i64 (x : Int), .int .i64 (y : Int), .int .i64 600]).run Try.prog W = .ok (.int .i64 (n : Int)) W := by
  rw [run_min_int3]
  congr 2
  repeat' split
  all_goals omega

set_option maxRecDepth 100000 in
set_option maxHeartbeats 1600000 in
theorem linear_walk (w : World) (A B : Option Addr) (na ca nb cb' : Nat) (xs ys : Bytes) (ha : Txt w A na xs) (hb : Txt w B nb ys) (hA : A = none → na = 0 ∧ ca = 0) (hB : B = none → nb = 0 ∧ cb' = 0) (hca : na ≤ ca) (hcb : nb ≤ cb') (hma : ca ≤ 9223372036854775807) (hmb : cb' ≤ 9223372036854775807) :
    Calls Try.prog 7 #[.slice A na ca, .slice B nb cb'] w fun e w' => e = .returned (.bool true) ∧ Only (w.heap.size ≤ ·) w w' := by
  obtain ⟨n, hn⟩ : ∃ n, n = min (min na nb) 600 := ⟨_, rfl⟩
  have hmin := min3 na nb n hn
  have hmk := mk5 n (by omega)
  have HTa := Lib.hid ha
  have HTb := Lib.hid hb
  have HA := Lib.hid hA
  have HB := Lib.hid hB
  have n1 : n ≤ na := by omega
  have n2 : n ≤ nb := by omega
  have n3 : n ≤ 600 := by omega
  clear ha hb hA hB hn
  go_enter Try.func7, Try.ntmps7
  go_upto_region 2 with (fail)
  go_cut [6, 7] (fun x y wx => ∃ gx gy : Nat, x = .slice (some ⟨gx, 0, none⟩) n n ∧ y = .slice (some ⟨gy, 0, none⟩) n n ∧ Two w wx gx gy n (mix xs ys n 0))
  case first =>
    go_region
    all_goals (go_wp2_with fail; go_meet; first | exact ⟨_, _, rfl, rfl, (two_start w n xs ys).1⟩ | exact ⟨_, _, rfl, rfl, (two_start w n xs ys).2⟩)
  case rest =>
    obtain ⟨gx, gy, rfl, rfl, htwo⟩ := hcut
    have HW := Lib.hid htwo
    clear htwo hmin hmk
    go_wp2
    go_loopw [19] (fun i wr => ∃ k : Nat, k ≤ n ∧ i = .int .i64 k ∧ Two w wr gx gy n (mix xs ys n k)) (fun i _ => n - (intOf i).toNat)
    case atStart => exact ⟨0, Nat.zero_le _, rfl, HW.out⟩
    case round =>
      clear HW
      obtain ⟨k, hk, rfl, htwo⟩ := hrel
      have HW := Lib.hid htwo
      clear htwo
      by_cases hlt : k < n
      · have k1 : (k : Int) < (n : Int) := by omega
        have k2 : (k : Int) < (na : Int) := by omega
        have k3 : (k : Int) < (nb : Int) := by omega
        obtain ⟨ad, rfl, hca1⟩ := (HTa.out.later HW.out.only).2 (by omega)
        obtain ⟨bd, rfl, hcb1⟩ := (HTb.out.later HW.out.only).2 (by omega)
        obtain ⟨x, hx⟩ : ∃ x, xs[k]? = some x := ⟨_, List.getElem?_eq_getElem (by have := HTa.out.1; omega)⟩
        obtain ⟨y, hy⟩ : ∃ y, ys[k]? = some y := ⟨_, List.getElem?_eq_getElem (by have := HTb.out.1; omega)⟩
        have cx : wr.cell? (ad.add k) = some (.int .u8 (x.toNat : Nat)) := hca1 k _ (by simp [cb, hx])
        have cy : wr.cell? (bd.add k) = some (.int .u8 (y.toNat : Nat)) := hcb1 k _ (by simp [cb, hy])
        obtain ⟨u, hu⟩ : ∃ u, wr.cell? ⟨gx, k, none⟩ = some u := by
          rw [HW.out.x.cell]
          exact ⟨_, List.getElem?_eq_getElem (by rw [cb_length]; unfold mix; simp; have := HTa.out.1; have := HTb.out.1; omega)⟩
        have fu := HW.out.x.frozen k
        have ev := u8_xor_val x y
        have Hmix := Lib.hid (mix_set xs ys n k x y hx hy hlt)
        have HW2 : Hid (Two w (wr.setCell ⟨gx, k, none⟩ (.int .u8 ((x ^^^ y).toNat : Nat))).drew gx gy n (mix xs ys n (k + 1))) := by
          refine ⟨?_, (HW.out.y.far HW.out.ne _).drew, (HW.out.only.setCell HW.out.base _).drew, HW.out.ne, HW.out.base⟩
          have h := HW.out.x.set_ k (.int .u8 ((x ^^^ y).toNat : Nat))
          rw [show (cb (mix xs ys n k)).set k (.int .u8 ((x ^^^ y).toNat : Nat)) = cb ((mix xs ys n k).set k (x ^^^ y)) by simp [cb], Hmix.out] at h
          exact h.drew
        clear hx hy hca1 hcb1
        go_wp2
        go_region
        go_wp2
        go_roundw
        case rel => exact ⟨k + 1, by omega, by go_num, HW2.out⟩
        case measure => simp [intOf]; omega
      · obtain rfl : k = n := by omega
        have hkm : ¬ (k : Int) < (k : Int) := by omega
        have hLx : (xs.take k).length = k := by rw [List.length_take, HTa.out.1]; omega
        have hLy : (ys.take k).length = k := by rw [List.length_take, HTb.out.1]; omega
        have HLm : Hid ((mix xs ys k k).length = k) := by show _ = _; rw [mix_end]; simp; have := HTa.out.1; have := HTb.out.1; omega
        have hzero := lin (xs.take k) (ys.take k) (by rw [hLx, hLy])
        rw [← mix_end, hLy] at hzero
        obtain ⟨s1, hs1⟩ : ∃ s, s = sum (xs.take k) := ⟨_, rfl⟩
        obtain ⟨s2, hs2⟩ : ∃ s, s = sum (ys.take k) := ⟨_, rfl⟩
        obtain ⟨s3, hs3⟩ : ∃ s, s = sum (mix xs ys k k) := ⟨_, rfl⟩
        obtain ⟨s4, hs4⟩ : ∃ s, s = sum (List.replicate k 0) := ⟨_, rfl⟩
        rw [← hs1, ← hs2, ← hs3, ← hs4] at hzero
        have l1 : s1 < 4294967296 := by rw [hs1]; exact sum_lt _
        have l2 : s2 < 4294967296 := by rw [hs2]; exact sum_lt _
        have l3 : s3 < 4294967296 := by rw [hs3]; exact sum_lt _
        have l4 : s4 < 4294967296 := by rw [hs4]; exact sum_lt _
        clear hLx hLy
        have i0 : (0 : Int) ≤ (k : Int) := by omega
        have i1 : (k : Int) ≤ (na : Int) := by omega
        have i2 : (k : Int) ≤ (nb : Int) := by omega
        have i3 : (k : Int) ≤ (ca : Int) := by omega
        have i4 : (k : Int) ≤ (cb' : Int) := by omega
        rcases A with _ | ad <;> rcases B with _ | bd
        · obtain ⟨rfl, rfl⟩ := HA.out rfl
          obtain rfl : k = 0 := by omega
          obtain ⟨rfl, rfl⟩ := HB.out rfl
          obtain rfl : s1 = s2 := by rw [hs1, hs2]; rfl
          have HCa : Hid (∀ W, Only (wr.heap.size ≤ ·) wr W → Calls Try.prog 9 #[.slice none 0 0] W fun e w' => e = .returned (.int .u32 (s1 : Nat)) ∧ Only (W.heap.size ≤ ·) W w') :=
            fun W hW => (Of_c W _ 0 0 (xs.take 0) (((HTa.out.shorter 0 (by omega)).later HW.out.only).later hW) (by omega)).mono fun e w' ⟨h, h'⟩ => ⟨by rw [h, hs1], h'⟩
          have HCb : Hid (∀ W, Only (wr.heap.size ≤ ·) wr W → Calls Try.prog 9 #[.slice none 0 0] W fun e w' => e = .returned (.int .u32 (s1 : Nat)) ∧ Only (W.heap.size ≤ ·) W w') :=
            fun W hW => (Of_c W _ 0 0 (ys.take 0) (((HTb.out.shorter 0 (by omega)).later HW.out.only).later hW) (by omega)).mono fun e w' ⟨h, h'⟩ => ⟨by rw [h, hs2], h'⟩
          have HCx : Hid (∀ W, Only (wr.heap.size ≤ ·) wr W → Calls Try.prog 9 #[.slice (some ⟨gx, 0, none⟩) 0 0] W fun e w' => e = .returned (.int .u32 (s3 : Nat)) ∧ Only (W.heap.size ≤ ·) W w') :=
            fun W hW => (Of_c W _ 0 0 (mix xs ys 0 0) ((txt_blk HW.out.x (by rw [HLm.out])).later hW) (by omega)).mono fun e w' ⟨h, h'⟩ => ⟨by rw [h, hs3], h'⟩
          have HCy : Hid (∀ W, Only (wr.heap.size ≤ ·) wr W → Calls Try.prog 9 #[.slice (some ⟨gy, 0, none⟩) 0 0] W fun e w' => e = .returned (.int .u32 (s4 : Nat)) ∧ Only (W.heap.size ≤ ·) W w') :=
            fun W hW => (Of_c W _ 0 0 (List.replicate 0 0) ((txt_blk HW.out.y (by simp)).later hW) (by omega)).mono fun e w' ⟨h, h'⟩ => ⟨by rw [h, hs4], h'⟩
          have e1 : bits .xor .u32 (s1 : Int) (s1 : Int) = ((s1 ^^^ s1 : Nat) : Int) := u32_xor_nat _ _ l1 l2
          have e2 : bits .xor .u32 ((s1 ^^^ s1 : Nat) : Int) (s3 : Int) = ((s1 ^^^ s1 ^^^ s3 : Nat) : Int) := u32_xor_nat _ _ (xor_lt l1 l2) l3
          have e3 : bits .xor .u32 ((s1 ^^^ s1 ^^^ s3 : Nat) : Int) (s4 : Int) = 0 := by rw [u32_xor_nat _ _ (xor_lt (xor_lt l1 l2) l3) l4, hzero]; rfl
          generalize s1 ^^^ s1 ^^^ s3 = t2 at e2 e3
          generalize s1 ^^^ s1 = t1 at e1 e2
          clear hs1 hs2 hs3 hs4 hzero l1 l2 l3 l4
          have HOW := Lib.hid HW.out.only
          clear HW HTa HTb HA HB HLm hk
          go_wp2
          go_region_held3 (fun w' => Only (wr.heap.size ≤ ·) wr w') (first | assumption | exact (Only.refl _ wr).drew) (first | (go_at_call 8; refine (alive_c _).mono ?_; rintro e w9 ⟨rfl, ho9⟩; have hO9 : Only (wr.heap.size ≤ ·) wr w9 := Only.trans (by assumption) (ho9.mono fun k h => Nat.le_trans (Only.size (by assumption)) h)) | (go_at_call 9; with_reducible refine (HCa.out _ (by assumption)).mono ?_; rintro e w9 ⟨rfl, ho9⟩; have hO9 : Only (wr.heap.size ≤ ·) wr w9 := Only.trans (by assumption) (ho9.mono fun k h => Nat.le_trans (Only.size (by assumption)) h)) | (go_at_call 9; with_reducible refine (HCb.out _ (by assumption)).mono ?_; rintro e w9 ⟨rfl, ho9⟩; have hO9 : Only (wr.heap.size ≤ ·) wr w9 := Only.trans (by assumption) (ho9.mono fun k h => Nat.le_trans (Only.size (by assumption)) h)) | (go_at_call 9; with_reducible refine (HCx.out _ (by assumption)).mono ?_; rintro e w9 ⟨rfl, ho9⟩; have hO9 : Only (wr.heap.size ≤ ·) wr w9 := Only.trans (by assumption) (ho9.mono fun k h => Nat.le_trans (Only.size (by assumption)) h)) | (go_at_call 9; with_reducible refine (HCy.out _ (by assumption)).mono ?_; rintro e w9 ⟨rfl, ho9⟩; have hO9 : Only (wr.heap.size ≤ ·) wr w9 := Only.trans (by assumption) (ho9.mono fun k h => Nat.le_trans (Only.size (by assumption)) h)))
          all_goals
            go_wp2
            go_ret
            exact ⟨rfl, HOW.out.trans (Only.mono (by assumption) fun k h => Nat.le_trans HOW.out.size h)⟩
        · obtain ⟨rfl, rfl⟩ := HA.out rfl
          obtain rfl : k = 0 := by omega
          have HCa : Hid (∀ W, Only (wr.heap.size ≤ ·) wr W → Calls Try.prog 9 #[.slice none 0 0] W fun e w' => e = .returned (.int .u32 (s1 : Nat)) ∧ Only (W.heap.size ≤ ·) W w') :=
            fun W hW => (Of_c W _ 0 0 (xs.take 0) (((HTa.out.shorter 0 (by omega)).later HW.out.only).later hW) (by omega)).mono fun e w' ⟨h, h'⟩ => ⟨by rw [h, hs1], h'⟩
          have HCb : Hid (∀ W, Only (wr.heap.size ≤ ·) wr W → Calls Try.prog 9 #[.slice (some bd) 0 cb'] W fun e w' => e = .returned (.int .u32 (s2 : Nat)) ∧ Only (W.heap.size ≤ ·) W w') :=
            fun W hW => (Of_c W _ 0 cb' (ys.take 0) (((HTb.out.shorter 0 (by omega)).later HW.out.only).later hW) (by omega)).mono fun e w' ⟨h, h'⟩ => ⟨by rw [h, hs2], h'⟩
          have HCx : Hid (∀ W, Only (wr.heap.size ≤ ·) wr W → Calls Try.prog 9 #[.slice (some ⟨gx, 0, none⟩) 0 0] W fun e w' => e = .returned (.int .u32 (s3 : Nat)) ∧ Only (W.heap.size ≤ ·) W w') :=
            fun W hW => (Of_c W _ 0 0 (mix xs ys 0 0) ((txt_blk HW.out.x (by rw [HLm.out])).later hW) (by omega)).mono fun e w' ⟨h, h'⟩ => ⟨by rw [h, hs3], h'⟩
          have HCy : Hid (∀ W, Only (wr.heap.size ≤ ·) wr W → Calls Try.prog 9 #[.slice (some ⟨gy, 0, none⟩) 0 0] W fun e w' => e = .returned (.int .u32 (s4 : Nat)) ∧ Only (W.heap.size ≤ ·) W w') :=
            fun W hW => (Of_c W _ 0 0 (List.replicate 0 0) ((txt_blk HW.out.y (by simp)).later hW) (by omega)).mono fun e w' ⟨h, h'⟩ => ⟨by rw [h, hs4], h'⟩
          have e1 : bits .xor .u32 (s1 : Int) (s2 : Int) = ((s1 ^^^ s2 : Nat) : Int) := u32_xor_nat _ _ l1 l2
          have e2 : bits .xor .u32 ((s1 ^^^ s2 : Nat) : Int) (s3 : Int) = ((s1 ^^^ s2 ^^^ s3 : Nat) : Int) := u32_xor_nat _ _ (xor_lt l1 l2) l3
          have e3 : bits .xor .u32 ((s1 ^^^ s2 ^^^ s3 : Nat) : Int) (s4 : Int) = 0 := by rw [u32_xor_nat _ _ (xor_lt (xor_lt l1 l2) l3) l4, hzero]; rfl
          generalize s1 ^^^ s2 ^^^ s3 = t2 at e2 e3
          generalize s1 ^^^ s2 = t1 at e1 e2
          clear hs1 hs2 hs3 hs4 hzero l1 l2 l3 l4
          have HOW := Lib.hid HW.out.only
          clear HW HTa HTb HA HB HLm hk
          go_wp2
          go_region_held3 (fun w' => Only (wr.heap.size ≤ ·) wr w') (first | assumption | exact (Only.refl _ wr).drew) (first | (go_at_call 8; refine (alive_c _).mono ?_; rintro e w9 ⟨rfl, ho9⟩; have hO9 : Only (wr.heap.size ≤ ·) wr w9 := Only.trans (by assumption) (ho9.mono fun k h => Nat.le_trans (Only.size (by assumption)) h)) | (go_at_call 9; with_reducible refine (HCa.out _ (by assumption)).mono ?_; rintro e w9 ⟨rfl, ho9⟩; have hO9 : Only (wr.heap.size ≤ ·) wr w9 := Only.trans (by assumption) (ho9.mono fun k h => Nat.le_trans (Only.size (by assumption)) h)) | (go_at_call 9; with_reducible refine (HCb.out _ (by assumption)).mono ?_; rintro e w9 ⟨rfl, ho9⟩; have hO9 : Only (wr.heap.size ≤ ·) wr w9 := Only.trans (by assumption) (ho9.mono fun k h => Nat.le_trans (Only.size (by assumption)) h)) | (go_at_call 9; with_reducible refine (HCx.out _ (by assumption)).mono ?_; rintro e w9 ⟨rfl, ho9⟩; have hO9 : Only (wr.heap.size ≤ ·) wr w9 := Only.trans (by assumption) (ho9.mono fun k h => Nat.le_trans (Only.size (by assumption)) h)) | (go_at_call 9; with_reducible refine (HCy.out _ (by assumption)).mono ?_; rintro e w9 ⟨rfl, ho9⟩; have hO9 : Only (wr.heap.size ≤ ·) wr w9 := Only.trans (by assumption) (ho9.mono fun k h => Nat.le_trans (Only.size (by assumption)) h)))
          all_goals
            go_wp2
            go_ret
            exact ⟨rfl, HOW.out.trans (Only.mono (by assumption) fun k h => Nat.le_trans HOW.out.size h)⟩
        · obtain ⟨rfl, rfl⟩ := HB.out rfl
          obtain rfl : k = 0 := by omega
          have HCa : Hid (∀ W, Only (wr.heap.size ≤ ·) wr W → Calls Try.prog 9 #[.slice (some ad) 0 ca] W fun e w' => e = .returned (.int .u32 (s1 : Nat)) ∧ Only (W.heap.size ≤ ·) W w') :=
            fun W hW => (Of_c W _ 0 ca (xs.take 0) (((HTa.out.shorter 0 (by omega)).later HW.out.only).later hW) (by omega)).mono fun e w' ⟨h, h'⟩ => ⟨by rw [h, hs1], h'⟩
          have HCb : Hid (∀ W, Only (wr.heap.size ≤ ·) wr W → Calls Try.prog 9 #[.slice none 0 0] W fun e w' => e = .returned (.int .u32 (s2 : Nat)) ∧ Only (W.heap.size ≤ ·) W w') :=
            fun W hW => (Of_c W _ 0 0 (ys.take 0) (((HTb.out.shorter 0 (by omega)).later HW.out.only).later hW) (by omega)).mono fun e w' ⟨h, h'⟩ => ⟨by rw [h, hs2], h'⟩
          have HCx : Hid (∀ W, Only (wr.heap.size ≤ ·) wr W → Calls Try.prog 9 #[.slice (some ⟨gx, 0, none⟩) 0 0] W fun e w' => e = .returned (.int .u32 (s3 : Nat)) ∧ Only (W.heap.size ≤ ·) W w') :=
            fun W hW => (Of_c W _ 0 0 (mix xs ys 0 0) ((txt_blk HW.out.x (by rw [HLm.out])).later hW) (by omega)).mono fun e w' ⟨h, h'⟩ => ⟨by rw [h, hs3], h'⟩
          have HCy : Hid (∀ W, Only (wr.heap.size ≤ ·) wr W → Calls Try.prog 9 #[.slice (some ⟨gy, 0, none⟩) 0 0] W fun e w' => e = .returned (.int .u32 (s4 : Nat)) ∧ Only (W.heap.size ≤ ·) W w') :=
            fun W hW => (Of_c W _ 0 0 (List.replicate 0 0) ((txt_blk HW.out.y (by simp)).later hW) (by omega)).mono fun e w' ⟨h, h'⟩ => ⟨by rw [h, hs4], h'⟩
          have e1 : bits .xor .u32 (s1 : Int) (s2 : Int) = ((s1 ^^^ s2 : Nat) : Int) := u32_xor_nat _ _ l1 l2
          have e2 : bits .xor .u32 ((s1 ^^^ s2 : Nat) : Int) (s3 : Int) = ((s1 ^^^ s2 ^^^ s3 : Nat) : Int) := u32_xor_nat _ _ (xor_lt l1 l2) l3
          have e3 : bits .xor .u32 ((s1 ^^^ s2 ^^^ s3 : Nat) : Int) (s4 : Int) = 0 := by rw [u32_xor_nat _ _ (xor_lt (xor_lt l1 l2) l3) l4, hzero]; rfl
          generalize s1 ^^^ s2 ^^^ s3 = t2 at e2 e3
          generalize s1 ^^^ s2 = t1 at e1 e2
          clear hs1 hs2 hs3 hs4 hzero l1 l2 l3 l4
          have HOW := Lib.hid HW.out.only
          clear HW HTa HTb HA HB HLm hk
          go_wp2
          go_region_held3 (fun w' => Only (wr.heap.size ≤ ·) wr w') (first | assumption | exact (Only.refl _ wr).drew) (first | (go_at_call 8; refine (alive_c _).mono ?_; rintro e w9 ⟨rfl, ho9⟩; have hO9 : Only (wr.heap.size ≤ ·) wr w9 := Only.trans (by assumption) (ho9.mono fun k h => Nat.le_trans (Only.size (by assumption)) h)) | (go_at_call 9; with_reducible refine (HCa.out _ (by assumption)).mono ?_; rintro e w9 ⟨rfl, ho9⟩; have hO9 : Only (wr.heap.size ≤ ·) wr w9 := Only.trans (by assumption) (ho9.mono fun k h => Nat.le_trans (Only.size (by assumption)) h)) | (go_at_call 9; with_reducible refine (HCb.out _ (by assumption)).mono ?_; rintro e w9 ⟨rfl, ho9⟩; have hO9 : Only (wr.heap.size ≤ ·) wr w9 := Only.trans (by assumption) (ho9.mono fun k h => Nat.le_trans (Only.size (by assumption)) h)) | (go_at_call 9; with_reducible refine (HCx.out _ (by assumption)).mono ?_; rintro e w9 ⟨rfl, ho9⟩; have hO9 : Only (wr.heap.size ≤ ·) wr w9 := Only.trans (by assumption) (ho9.mono fun k h => Nat.le_trans (Only.size (by assumption)) h)) | (go_at_call 9; with_reducible refine (HCy.out _ (by assumption)).mono ?_; rintro e w9 ⟨rfl, ho9⟩; have hO9 : Only (wr.heap.size ≤ ·) wr w9 := Only.trans (by assumption) (ho9.mono fun k h => Nat.le_trans (Only.size (by assumption)) h)))
          all_goals
            go_wp2
            go_ret
            exact ⟨rfl, HOW.out.trans (Only.mono (by assumption) fun k h => Nat.le_trans HOW.out.size h)⟩
        · have HCa : Hid (∀ W, Only (wr.heap.size ≤ ·) wr W → Calls Try.prog 9 #[.slice (some ad) k ca] W fun e w' => e = .returned (.int .u32 (s1 : Nat)) ∧ Only (W.heap.size ≤ ·) W w') :=
            fun W hW => (Of_c W _ k ca (xs.take k) (((HTa.out.shorter k (by omega)).later HW.out.only).later hW) (by omega)).mono fun e w' ⟨h, h'⟩ => ⟨by rw [h, hs1], h'⟩
          have HCb : Hid (∀ W, Only (wr.heap.size ≤ ·) wr W → Calls Try.prog 9 #[.slice (some bd) k cb'] W fun e w' => e = .returned (.int .u32 (s2 : Nat)) ∧ Only (W.heap.size ≤ ·) W w') :=
            fun W hW => (Of_c W _ k cb' (ys.take k) (((HTb.out.shorter k (by omega)).later HW.out.only).later hW) (by omega)).mono fun e w' ⟨h, h'⟩ => ⟨by rw [h, hs2], h'⟩
          have HCx : Hid (∀ W, Only (wr.heap.size ≤ ·) wr W → Calls Try.prog 9 #[.slice (some ⟨gx, 0, none⟩) k k] W fun e w' => e = .returned (.int .u32 (s3 : Nat)) ∧ Only (W.heap.size ≤ ·) W w') :=
            fun W hW => (Of_c W _ k k (mix xs ys k k) ((txt_blk HW.out.x (by rw [HLm.out])).later hW) (by omega)).mono fun e w' ⟨h, h'⟩ => ⟨by rw [h, hs3], h'⟩
          have HCy : Hid (∀ W, Only (wr.heap.size ≤ ·) wr W → Calls Try.prog 9 #[.slice (some ⟨gy, 0, none⟩) k k] W fun e w' => e = .returned (.int .u32 (s4 : Nat)) ∧ Only (W.heap.size ≤ ·) W w') :=
            fun W hW => (Of_c W _ k k (List.replicate k 0) ((txt_blk HW.out.y (by simp)).later hW) (by omega)).mono fun e w' ⟨h, h'⟩ => ⟨by rw [h, hs4], h'⟩
          have e1 : bits .xor .u32 (s1 : Int) (s2 : Int) = ((s1 ^^^ s2 : Nat) : Int) := u32_xor_nat _ _ l1 l2
          have e2 : bits .xor .u32 ((s1 ^^^ s2 : Nat) : Int) (s3 : Int) = ((s1 ^^^ s2 ^^^ s3 : Nat) : Int) := u32_xor_nat _ _ (xor_lt l1 l2) l3
          have e3 : bits .xor .u32 ((s1 ^^^ s2 ^^^ s3 : Nat) : Int) (s4 : Int) = 0 := by rw [u32_xor_nat _ _ (xor_lt (xor_lt l1 l2) l3) l4, hzero]; rfl
          generalize s1 ^^^ s2 ^^^ s3 = t2 at e2 e3
          generalize s1 ^^^ s2 = t1 at e1 e2
          clear hs1 hs2 hs3 hs4 hzero l1 l2 l3 l4
          have HOW := Lib.hid HW.out.only
          clear HW HTa HTb HA HB HLm hk
          go_wp2
          go_region_held3 (fun w' => Only (wr.heap.size ≤ ·) wr w') (first | assumption | exact (Only.refl _ wr).drew) (first | (go_at_call 8; refine (alive_c _).mono ?_; rintro e w9 ⟨rfl, ho9⟩; have hO9 : Only (wr.heap.size ≤ ·) wr w9 := Only.trans (by assumption) (ho9.mono fun k h => Nat.le_trans (Only.size (by assumption)) h)) | (go_at_call 9; with_reducible refine (HCa.out _ (by assumption)).mono ?_; rintro e w9 ⟨rfl, ho9⟩; have hO9 : Only (wr.heap.size ≤ ·) wr w9 := Only.trans (by assumption) (ho9.mono fun k h => Nat.le_trans (Only.size (by assumption)) h)) | (go_at_call 9; with_reducible refine (HCb.out _ (by assumption)).mono ?_; rintro e w9 ⟨rfl, ho9⟩; have hO9 : Only (wr.heap.size ≤ ·) wr w9 := Only.trans (by assumption) (ho9.mono fun k h => Nat.le_trans (Only.size (by assumption)) h)) | (go_at_call 9; with_reducible refine (HCx.out _ (by assumption)).mono ?_; rintro e w9 ⟨rfl, ho9⟩; have hO9 : Only (wr.heap.size ≤ ·) wr w9 := Only.trans (by assumption) (ho9.mono fun k h => Nat.le_trans (Only.size (by assumption)) h)) | (go_at_call 9; with_reducible refine (HCy.out _ (by assumption)).mono ?_; rintro e w9 ⟨rfl, ho9⟩; have hO9 : Only (wr.heap.size ≤ ·) wr w9 := Only.trans (by assumption) (ho9.mono fun k h => Nat.le_trans (Only.size (by assumption)) h)))
          all_goals
            go_wp2
            go_ret
            exact ⟨rfl, HOW.out.trans (Only.mono (by assumption) fun k h => Nat.le_trans HOW.out.size h)⟩
end Go.Proofs.Ytdgcplmekkancaa
