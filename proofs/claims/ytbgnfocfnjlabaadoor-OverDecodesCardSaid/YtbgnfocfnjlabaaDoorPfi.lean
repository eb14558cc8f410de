/-
  finish, Wrap: the page that was written, sealed if its generation asks for it.
-/
import Derived.Test.YtbgnfocfnjlabaaDoorPst
import Derived.Test.YtbgnfocfnjlabaaDoorGc
import Derived.Test.YtbgnfocfnjlabaaDoorGe
import Derived.RegionTactic
import Derived.BigRegion
import Derived.Deep.CutRange
set_option linter.unusedVariables false
namespace Go.Proofs.YtbgnfocfnjlabaaDoor
open Go.RowKit

/-- Bytes came back, of the call's own; only new blocks. -/
def GaveB (w : World) (xs : Bytes) (e : Ending) (w' : World) : Prop := ∃ v, e = .returned v ∧ Src w' v xs ∧ Only (w.heap.size ≤ ·) w w'
/-- Bytes and a number came back. -/
def GaveBE (w : World) (xs : Bytes) (z : Int) (e : Ending) (w' : World) : Prop := ∃ v, e = .returned (.tuple #[v, .int .i64 z]) ∧ Src w' v xs ∧ Only (w.heap.size ≤ ·) w w'
theorem Byt.gave {w w' : World} {v : Value} {n : Nat} {xs : Bytes} (h : Byt w w' v n xs) : Src w' v xs ∧ Only (w.heap.size ≤ ·) w w' := by
  obtain ⟨hn, ho, hw⟩ := h
  subst hn
  exact ⟨Src.own ho, hw⟩
theorem Seal_s (w : World) (v : Value) (xs : Bytes) (h : Src w v xs) (hn : xs.length ≤ 65536) : Calls Tryd.prog 36 #[v, .int .i64 4] w (GaveB w (sealB xs 4)) := by
  obtain ⟨A, c, rfl, ht, hA, hc, hm⟩ := h
  refine (Seal_c w A xs.length c xs ht (fun e => ⟨by have := hA e; omega, hA e⟩) (by omega) hc hm 4 (by decide) (by decide)).mono ?_
  rintro e w' ⟨v', rfl, hb⟩
  exact ⟨v', rfl, hb.gave⟩
theorem rSeal_s (w : World) (v : Value) (xs : Bytes) (h : Src w v xs) (hn : xs.length ≤ 65536) : Calls Tryd.prog 59 #[v, .int .i64 4] w (GaveB w (sealB xs 4)) := by
  obtain ⟨A, c, rfl, ht, hA, hc, hm⟩ := h
  refine (refSeal_c w A xs.length c xs ht (fun e => ⟨by have := hA e; omega, hA e⟩) (by omega) hc hm 4 (by decide) (by decide)).mono ?_
  rintro e w' ⟨v', rfl, hb⟩
  exact ⟨v', rfl, hb.gave⟩
theorem Sealed_s (w : World) (v : Value) (xs : Bytes) (h : Src w v xs) (hn : xs.length ≤ 65536) : Calls Tryd.prog 84 #[v, .int .i64 4] w (Told w (.bool (isSealed xs 4))) := by
  obtain ⟨A, c, rfl, ht, hA, hc, hm⟩ := h
  exact Sealed_c w A xs.length c xs ht (fun e => ⟨by have := hA e; omega, hA e⟩) (by omega) hc hm 4 (by decide) (by decide)

def finE (c : Cur) : Int := if c.sp = true then 73 else 0
def finB (g : Int) (c : Cur) : Bytes := if c.sp = true then [] else if g = 1 then c.b else sealB c.b 4
set_option maxRecDepth 100000 in
set_option maxHeartbeats 3200000 in
theorem finish_c (w : World) (p q : Nat) (g : Int) (c : Cur) (h : Holds w p q 137 c) (hn : c.b.length ≤ 65536) : Calls Tryd.prog 97 #[.int .i64 g, .pointer (some ⟨p, 0, none⟩)] w (GaveBE w (finB g c) (finE c)) := by
  have HD : Hid (Calls Tryd.prog 101 #[.pointer (some ⟨p, 0, none⟩)] w fun e w' => ∃ v, e = .returned (.tuple #[v, .int .i64 c.err]) ∧ Src w' v c.out ∧ Only (w.heap.size ≤ ·) w w') := Lib.hid (Done_c w p q c h)
  clear h
  obtain ⟨b, at_, sp⟩ := c
  unfold finE finB
  simp only [Cur.err, Cur.out] at HD
  simp only at hn
  cases sp
  · simp only [Bool.false_eq_true, if_false] at HD ⊢
    by_cases h1 : g = 1
    · subst h1
      rw [if_pos rfl]
      go_enter Tryd.func97, Tryd.ntmps97
      go_wp2_with (first
        | (go_at_call 101; (with_reducible refine HD.out.mono ?_); rintro e w1 ⟨v, rfl, hs, ho⟩; have HS := Lib.hid hs; have HO := Lib.hid ho; clear hs ho)
        | (go_at_call 78; (with_reducible refine (summed_c _ 1).mono ?_); rintro e w2 ⟨rfl, rfl⟩))
      go_ret2
      exact ⟨v, rfl, HS.out, HO.out⟩
    · rw [if_neg h1]
      have HQ : Hid (∀ W, Calls Tryd.prog 78 #[.int .i64 g] W fun e w' => e = .returned (.bool true) ∧ W = w') := Lib.hid fun W => by have := summed_c W g; rwa [decide_eq_true h1] at this
      clear h1
      go_enter Tryd.func97, Tryd.ntmps97
      go_wp2_with (first
        | (go_at_call 101; (with_reducible refine HD.out.mono ?_); rintro e w1 ⟨v, rfl, hs, ho⟩; have HS := Lib.hid hs; have HO := Lib.hid ho; clear hs ho)
        | (go_at_call 78; (with_reducible refine (HQ.out _).mono ?_); rintro e w2 ⟨rfl, rfl⟩)
        | (go_at_call 36; (with_reducible refine (Seal_s _ _ b HS.out hn).mono ?_); rintro e w2 ⟨v2, rfl, hs, ho⟩; have HS2 := Lib.hid hs; (replace HO := Lib.hid (on_new HO.out ho)); clear hs ho))
      go_ret2
      exact ⟨v2, rfl, HS2.out, HO.out⟩
  · simp only [if_true] at HD ⊢
    go_enter Tryd.func97, Tryd.ntmps97
    go_wp2_with (go_at_call 101; (with_reducible refine HD.out.mono ?_); rintro e w1 ⟨v, rfl, hs, ho⟩; have HO := Lib.hid ho; clear hs ho)
    go_ret2
    exact ⟨_, rfl, Src.nil_ _, HO.out⟩

/-- What Wrap makes of a head and a body. -/
def wrapC (k g n x : Int) (body : Bytes) : Cur := (stC k g n x).write body
theorem stC_len (k g n x : Int) : (stC k g n x).b.length = 256 := by
  unfold stC
  rw [Cur.put_len, Cur.take_b, Cur.put_len, Cur.put_len, Cur.put_len]
  show (List.replicate (size 256) 0).length = 256
  rw [List.length_replicate]
  rfl
theorem wrapC_len (k g n x : Int) (body : Bytes) : (wrapC k g n x body).b.length = 256 := by
  unfold wrapC
  rw [Cur.write_len, stC_len]
def wrapE (k g n x : Int) (body : Bytes) : Int := if (kindOk k && gen g) = true then finE (wrapC k g n x body) else 70
def wrapB (k g n x : Int) (body : Bytes) : Bytes := if (kindOk k && gen g) = true then finB g (wrapC k g n x body) else []
set_option maxRecDepth 100000 in
set_option maxHeartbeats 3200000 in
theorem Wrap_c (w : World) (k g n x : Int) (u : Value) (body : Bytes) (hG : Gens w) (hs : Src w u body) (h1 : I64 k) (h2 : I64 g) (h3 : I64 n) (h4 : I64 x) :
    Calls Tryd.prog 89 #[.agg #[.int .i64 k, .int .i64 g, .int .i64 n, .int .i64 x], u] w (GaveBE w (wrapB k g n x body) (wrapE k g n x body)) := by
  obtain ⟨W0, hW0⟩ : ∃ W0, W0 = w.alloc (.cells #[.int .i64 k, .int .i64 g, .int .i64 n, .int .i64 x] 57) := ⟨_, rfl⟩
  have HO : Hid (Only (w.heap.size ≤ ·) w W0) := Lib.hid (by rw [hW0]; exact (Only.refl _ w).alloc (fun _ h => h) _)
  have HI : Hid (Blk W0 w.heap.size 57 [.int .i64 k, .int .i64 g, .int .i64 n, .int .i64 x]) := Lib.hid (by rw [hW0]; exact Blk.new w 57 _)
  have HZ : Hid (w.heap.size ≤ W0.heap.size) := Lib.hid HO.out.size
  have HS := Lib.hid (hs.later HO.out)
  have HBK : Hid (∀ ad m c', u = .slice (some ad) m c' → 0 < m → ad.block < W0.heap.size) := Lib.hid fun ad m c' e hm => by
    obtain ⟨A, c, e2, ht, _⟩ := HS.out
    rw [e] at e2
    simp only [Value.slice.injEq] at e2
    obtain ⟨rfl, rfl, rfl⟩ := e2
    exact ht.block hm
  have HFT : Hid (∀ p q, W0.heap.size ≤ p → W0.heap.size ≤ q → ∀ ad m c', u = .slice (some ad) m c' → 0 < m → ¬ Foot p q ad.block) := Lib.hid fun p q hp hq ad m c' e hm hf => by
    have h1 := HBK.out ad m c' e hm
    rcases hf with hf | hf <;> omega
  have HST : Hid (∀ W, Only (W0.heap.size ≤ ·) W0 W → Calls Tryd.prog 95 #[.agg #[.int .i64 k, .int .i64 g, .int .i64 n, .int .i64 x]] W (Made W 137 (stC k g n x))) := Lib.hid fun W hW => start_c W k g n x ((hG.later HO.out).later hW) h1 h2 h3 h4
  obtain ⟨b, hb⟩ : ∃ b, (kindOk k && gen g) = b := ⟨_, rfl⟩
  obtain ⟨kk, hkk⟩ : ∃ b, kindOk k = b := ⟨_, rfl⟩
  obtain ⟨gg, hgg⟩ : ∃ b, gen g = b := ⟨_, rfl⟩
  have HKK : Hid (∀ W, Calls Tryd.prog 46 #[.int .i64 k] W fun e w' => e = .returned (.bool kk) ∧ W = w') := Lib.hid fun W => by rw [← hkk]; exact isKind_c W k
  have HGG : Hid (∀ W, Calls Tryd.prog 42 #[.int .i64 g] W fun e w' => e = .returned (.bool gg) ∧ W = w') := Lib.hid fun W => by rw [← hgg]; exact Gen_c W g
  have HL : Hid (((stC k g n x).write body).b.length ≤ 65536) := Lib.hid (by have := wrapC_len k g n x body; unfold wrapC at this; omega)
  unfold wrapE wrapB
  rw [hb]
  rw [hkk, hgg] at hb
  clear hG hs h1 h2 h3 h4 hkk hgg
  obtain ⟨i0, i1, i2, i3⟩ := HI.out.four
  cases kk
  · obtain rfl : b = false := by rw [← hb]; rfl
    go_enter Tryd.func89, Tryd.ntmps89
    go_upto_region 1 with (fail)
    rw [← hW0]
    clear hW0
    go_wp2_with (go_at_call 46; (with_reducible refine (HKK.out _).mono ?_); rintro e w1 ⟨rfl, rfl⟩)
    go_ret2
    exact ⟨_, rfl, Src.nil_ _, HO.out⟩
  cases gg
  · obtain rfl : b = false := by rw [← hb]; rfl
    go_enter Tryd.func89, Tryd.ntmps89
    go_upto_region 1 with (fail)
    rw [← hW0]
    clear hW0
    go_wp2_with (first
      | (go_at_call 46; (with_reducible refine (HKK.out _).mono ?_); rintro e w1 ⟨rfl, rfl⟩)
      | (go_at_call 42; (with_reducible refine (HGG.out _).mono ?_); rintro e w1 ⟨rfl, rfl⟩))
    go_ret2
    exact ⟨_, rfl, Src.nil_ _, HO.out⟩
  obtain rfl : b = true := by rw [← hb]; rfl
  clear hb
  rw [if_pos rfl, if_pos rfl]
  go_enter Tryd.func89, Tryd.ntmps89
  go_upto_region 1 with (fail)
  rw [← hW0]
  clear hW0
  have HN : Hid (Only (W0.heap.size ≤ ·) W0 W0) := Lib.hid (Only.refl _ _)
  go_wp2_with (first
    | (go_at_call 46; (with_reducible refine (HKK.out _).mono ?_); rintro e w1 ⟨rfl, rfl⟩)
    | (go_at_call 42; (with_reducible refine (HGG.out _).mono ?_); rintro e w1 ⟨rfl, rfl⟩)
    | (go_at_call 95; (with_reducible refine (HST.out _ HN.out).mono ?_); rintro e w2 ⟨p, q, rfl, hp, hq, hh, ho, hql⟩; have HH := Lib.hid hh; have HP := Lib.hid hp; have HQ := Lib.hid hq; (replace HN := Lib.hid (on_new HN.out ho)); clear hh hp hq ho hql i0 i1 i2 i3; (obtain ⟨i0, i1, i2, i3⟩ := (HI.out.later HN.out).four))
    | (go_at_call 96; (with_reducible refine (WBytes_c _ p q _ HH.out u body (HS.out.later HN.out) (HFT.out p q HP.out HQ.out)).mono ?_); rintro e w3 ⟨rfl, hh, ho⟩; (replace HH := Lib.hid hh); (replace HN := Lib.hid (HN.out.trans (ho.mono fun j hj => hj.elim (fun e => e ▸ HP.out) (fun e => e ▸ HQ.out)))); clear hh ho i0 i1 i2 i3; (obtain ⟨i0, i1, i2, i3⟩ := (HI.out.later HN.out).four))
    | (go_at_call 97; (with_reducible refine (finish_c _ p q g _ HH.out HL.out).mono ?_); rintro e w4 ⟨v, rfl, hs, ho⟩; have HV := Lib.hid hs; (replace HN := Lib.hid (on_new HN.out ho)); clear hs ho))
  go_ret2
  exact ⟨v, rfl, HV.out, on_new HO.out HN.out⟩
end Go.Proofs.YtbgnfocfnjlabaaDoor
