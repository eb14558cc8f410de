/-
  Seal.
-/
import Derived.Test.YtdgcplmekkancaaArnd
import Derived.Laws.CopyOwn
import Derived.Deep.RegionLaw
set_option linter.unusedVariables false
namespace Go.Proofs.Ytdgcplmekkancaa
open Go.RowKit

def z8 : Value := .int .u8 0
theorem info5 : (Try.prog.info? 5).map (fun i => (i.zero, i.size, i.bytes)) = some (some z8, 1, 1) := by kernel_rfl
theorem size5 : (Try.prog.info? 5).map (·.size) = some 1 := by kernel_rfl

def put4 (xs : Bytes) (a : Nat) : Bytes := xs.take a ++ (le4 (sum (oth xs a)) ++ xs.drop (a + 4))
def sealB (xs : Bytes) (at_ : Int) : Bytes := if room xs.length at_ then put4 xs at_.toNat else xs
theorem put4_length (xs : Bytes) (a : Nat) (h : a + 4 ≤ xs.length) : (put4 xs a).length = xs.length := by
  simp [put4, le4_length]
  omega
theorem sealB_length (xs : Bytes) (at_ : Int) : (sealB xs at_).length = xs.length := by
  unfold sealB
  split
  · rename_i h
    simp only [room, decide_eq_true_eq] at h
    exact put4_length _ _ (by omega)
  · rfl
theorem cb_append (a b : Bytes) : cb (a ++ b) = cb a ++ cb b := by simp [cb]

/-- A row of bytes that is the call's own. -/
def Byt (w0 wr : World) (v : Value) (n : Nat) (xs : Bytes) : Prop := xs.length = n ∧ wr.ownsRow w0.heap.size 5 1 v n (cb xs) ∧ Only (w0.heap.size ≤ ·) w0 wr

theorem splice_take (cur vs : List Value) (a n k : Nat) (hk : vs.length = k) (ha : a + k ≤ n) (hn : n ≤ cur.length) : (splice cur a vs).take n = (cur.take n).take a ++ (vs ++ (cur.take n).drop (a + k)) := by
  apply List.ext_getElem?
  intro i
  simp only [splice, List.getElem?_take, List.getElem?_append, List.getElem?_drop, List.length_take, List.length_append, hk]
  repeat' split
  all_goals first | rfl | omega | (congr 1; omega) | (rw [List.getElem?_eq_none (by omega)]) | (symm; rw [List.getElem?_eq_none (by omega)])
theorem there41 (w1 : World) (s : Nat) : (w1.alloc (.cells #[.int .u8 0, .int .u8 0, .int .u8 0, .int .u8 0] 41)).there w1.heap.size 0 (cb (le4 s)).toArray.size :=
  (Blk.new w1 41 [.int .u8 0, .int .u8 0, .int .u8 0, .int .u8 0]).there 0 4 (by decide)
theorem size41 (s : Nat) : (Try.prog.info? 41).map (·.size) = some (cb (le4 s)).toArray.size := by
  show _ = some 4
  kernel_rfl
theorem laid41 (w1 : World) (s : Nat) : Blk ((w1.alloc (.cells #[.int .u8 0, .int .u8 0, .int .u8 0, .int .u8 0] 41)).setCells w1.heap.size 0 (cb (le4 s))) w1.heap.size 41 (cb (le4 s)) :=
  (Blk.new w1 41 [.int .u8 0, .int .u8 0, .int .u8 0, .int .u8 0]).setN (cb (le4 s)) 0 (Nat.le_refl _)

set_option maxRecDepth 100000 in
set_option maxHeartbeats 1600000 in
theorem Seal_c (w : World) (A : Option Addr) (n c : Nat) (xs : Bytes) (ht : Txt w A n xs) (hA : A = none → n = 0 ∧ c = 0) (hn : n ≤ 1099511627776) (hc : n ≤ c) (hcm : c ≤ 9223372036854775807) (at_ : Int) (h1 : -9223372036854775808 ≤ at_) (h2 : at_ ≤ 9223372036854775807) :
    Calls Try.prog 12 #[.slice A n c, .int .i64 at_] w fun e w' => ∃ v, e = .returned v ∧ Byt w w' v n (sealB xs at_) := by
  obtain ⟨i0, hi0, hz0, hz1, hz2⟩ := info_parts info5
  have HI := Lib.hid (And.intro hi0 (And.intro hz0 (And.intro hz1 hz2)))
  clear hi0 hz0 hz1 hz2
  have Hlen : Hid ((cb xs).length = n * 1) := by show _ = _; rw [cb_length, ht.1, Nat.mul_one]
  have Hxl : Hid (xs.length = n) := ht.1
  have HC : Hid (∀ ad, A = some ad → ∀ j u, (cb xs)[j]? = some u → w.cell? (ad.add j) = some u) := by
    intro ad e j u hu
    have hj : j < (cb xs).length := (List.getElem?_eq_some_iff.1 hu).1
    rw [cb_length, ht.1] at hj
    obtain ⟨ad', e', hc⟩ := ht.2 (by omega)
    rw [e] at e'
    cases e'
    exact hc j u hu
  have HA := Lib.hid hA
  have HT := Lib.hid ht
  clear hA ht
  by_cases hr : room n at_ = true
  · have E : Hid (sealB xs at_ = put4 xs at_.toNat) := by show _ = _; unfold sealB; rw [Hxl.out, if_pos hr]
    obtain ⟨a, rfl⟩ : ∃ a : Nat, at_ = (a : Int) := ⟨at_.toNat, by simp only [room, decide_eq_true_eq] at hr; omega⟩
    have ha : a + 4 ≤ n := by simp only [room, decide_eq_true_eq] at hr; omega
    obtain ⟨ad, rfl⟩ : ∃ ad, A = some ad := by
      cases A with
      | some ad => exact ⟨ad, rfl⟩
      | none => have := (HA.out rfl).1; omega
    go_enter Try.func12, Try.ntmps12
    go_wp2_with (first | (at_builtin; refine wpList_append_src _ rfl (.const (.slice none 0 0)) (.tmp 7) 22 rfl w.heap.size 5 i0 _ 1 1 Try.underlying22 HI.out.1 HI.out.2.1 HI.out.2.2.1 HI.out.2.2.2 (by rfl) (by omega) (.slice none 0 0) 0 [] rfl (World.ownsRow_nil _ _ _ _) (some ad) n c (cb xs) rfl HA.out Hlen.out HC.out (cb_one _) (by simp only [maxLen]; omega) (by omega) (Nat.le_refl _) ?_; intro v' w1 ho' hg'; have HW1 : Hid (Byt w w1 v' n xs) := ⟨Hxl.out, by simpa using ho', (Only.refl _ w).grown hg' (fun _ h => h) (fun g hg => by simp [Value.ownBlock] at hg)⟩; clear ho' hg') | (go_at_call 19; refine (has_c _ (some ad) n c (by omega) (a : Int) h1 h2).mono ?_; rintro e w2 ⟨rfl, rfl⟩) | (go_at_call 20; refine (around_c _ ad n c xs (HT.out.later HW1.out.2.2) (by omega) hc hcm a ha).mono ?_; rintro e w3 ⟨rfl, ho3⟩; have HO3 := Lib.hid ho3; clear ho3) | (with_reducible refine wpList_store_mid rfl 41 (.tmp 6) (.tmp 14) rfl w3.heap.size 0 (cb (le4 (sum (oth xs a)))).toArray (by simp [Act.eval, Act.put]) (by simp [Act.eval, Act.put]) (there41 w3 _) (size41 _) (all_oneCell_toArray (cb_one _)) ?_))
    obtain ⟨hxl, hrow, hon⟩ := HW1.out
    rcases hrow.2 with ⟨_, h0⟩ | ⟨g, cap, cur, rfl, hbg, hg, hnc, hcpm, hcs, htake⟩
    · omega
    have hgl : g < w1.heap.size := (Array.getElem?_eq_some_iff.1 hg).1
    obtain ⟨S, hS⟩ : ∃ S, S = sum (oth xs a) := ⟨_, rfl⟩
    rw [← hS]
    have HL := Lib.hid (laid41 w3 S)
    obtain ⟨wz, hwz⟩ : ∃ wz, wz = (w3.alloc (.cells #[.int .u8 0, .int .u8 0, .int .u8 0, .int .u8 0] 41)).setCells w3.heap.size 0 (cb (le4 S)) := ⟨_, rfl⟩
    have HBg : Hid (Blk wz g 5 cur.toList) := by
      rw [hwz]
      have h1 : Blk w1 g 5 cur.toList := by unfold Blk; rw [Array.toArray_toList]; exact hg
      have h3 := HO3.out.size
      exact Blk.farN (by omega) _ _ ((h1.only HO3.out (by omega)).alloc _)
    have HOz : Hid (Only (w.heap.size ≤ ·) w wz) := by
      rw [hwz]
      have h1 := hon.size
      have h3 := HO3.out.size
      exact ((hon.trans (HO3.out.mono fun k h => Nat.le_trans h1 h)).alloc (fun _ h => h) _).setCells _ _ _ (Nat.le_trans h1 h3)
    rw [← hwz] at HL ⊢
    obtain ⟨gs, hgs⟩ : ∃ gs, gs = w3.heap.size := ⟨_, rfl⟩
    rw [← hgs] at HL ⊢
    have HE2 : Hid (cb (put4 xs a) = (splice cur.toList a (cb (le4 S))).take n) := by
      show _ = _
      have hc1 : cur.toList.take n = cb xs := by rw [← htake, Nat.mul_one]
      have hll : (cb (le4 S)).length = 4 := by rw [cb_length, le4_length]
      have hcl : cur.toList.length = cap := by rw [Array.length_toList, hcs, Nat.mul_one]
      rw [splice_take cur.toList (cb (le4 S)) a n 4 hll ha (by omega), hc1]
      unfold put4
      rw [← hS, cb_append, cb_append]
      simp [cb, List.map_take, List.map_drop]
    have Hl4 : Hid ((cb (le4 S)).length = Nat.min 4 (n - a)) := by
      show _ = min 4 (n - a)
      rw [cb_length, le4_length, Nat.min_eq_left (by omega)]
    have Hpc : Hid (∀ j v, (cb (le4 S))[j]? = some v → wz.drew.cell? ((⟨gs, 0, none⟩ : Addr).add j) = some v) := by
      intro j v hv
      rw [Addr.add_mid, Nat.zero_add, HL.out.drew.cell]
      exact hv
    have hft : a + (cb (le4 S)).length ≤ cur.toList.length := by
      rw [cb_length, le4_length, Array.length_toList, hcs]
      omega
    have Hft := Lib.hid hft
    have Hcs : Hid (cur.size = cap * 1) := hcs
    have a0 : (0 : Int) ≤ (a : Int) := by omega
    have a1 : (a : Int) ≤ (n : Int) := by omega
    have a2 : (a : Int) ≤ (cap : Int) := by omega
    have a3 : ¬ (cap = a) := by omega
    have Hcpm := Lib.hid hcpm
    clear hS hwz hgs hgl HW1 htake hcs hg hft hcpm hrow hon HO3 w3 w1 hr
    go_wp2
    go_region_law (refine step_copy_splice (w := wz.drew) rfl (.tmp 17) (.tmp 18) 22 22 rfl 5 Try.underlying22 size5 (some ⟨g, a, none⟩) (some ⟨gs, 0, none⟩) (n - a) (cap - a) 4 4 (by simp [Act.eval, Act.put]) (by simp [Act.eval, Act.put]) g a _ 5 HBg.out.drew (cb (le4 S)) Hl4.out (fun _ => ⟨rfl, _, rfl, Hpc.out⟩) Hft.out (cb_one _) w.heap.size w (HOz.out.drew.toBelow fun _ h => h) hbg ?_; intro wf HBf hbf)
    have HBF := Lib.hid HBf
    have HOF := Lib.hid hbf
    clear HBf hbf
    go_wp2
    go_ret
    refine ⟨_, rfl, ?_⟩
    rw [E.out]
    refine ⟨by rw [Int.toNat_natCast, put4_length _ _ (by omega)]; exact hxl, ⟨by rw [cb_length, Int.toNat_natCast, put4_length _ _ (by omega)]; omega, .inr ⟨g, cap, _, rfl, hbg, HBF.out, hnc, Hcpm.out, ?_, ?_⟩⟩, Only.below HOF.out⟩
    · have := Hft.out
      have h2 := Hcs.out
      simp [splice] at this ⊢
      omega
    · rw [Int.toNat_natCast, HE2.out, Nat.mul_one]
  · have hr' : room n at_ = false := by simpa using hr
    have E : Hid (sealB xs at_ = xs) := by show _ = _; unfold sealB; rw [Hxl.out, hr']; rfl
    clear hr
    go_enter Try.func12, Try.ntmps12
    go_wp2_with (first | (at_builtin; refine wpList_append_src _ rfl (.const (.slice none 0 0)) (.tmp 7) 22 rfl w.heap.size 5 i0 _ 1 1 Try.underlying22 HI.out.1 HI.out.2.1 HI.out.2.2.1 HI.out.2.2.2 (by rfl) (by omega) (.slice none 0 0) 0 [] rfl (World.ownsRow_nil _ _ _ _) A n c (cb xs) rfl HA.out Hlen.out HC.out (cb_one _) (by simp only [maxLen]; omega) (by omega) (Nat.le_refl _) ?_; intro v' w1 ho' hg'; have HW1 : Hid (Byt w w1 v' n xs) := ⟨Hxl.out, by simpa using ho', (Only.refl _ w).grown hg' (fun _ h => h) (fun g hg => by simp [Value.ownBlock] at hg)⟩; clear ho' hg') | (go_at_call 19; refine (has_c _ A n c (by omega) at_ h1 h2).mono ?_; rintro e w2 ⟨rfl, rfl⟩))
    go_ret
    refine ⟨_, rfl, ?_⟩
    rw [E.out]
    exact HW1.out
end Go.Proofs.Ytdgcplmekkancaa
