/-
  Wrap of the document, and that the program's says the same.
-/
import Derived.Test.YtbgnfocfnjlabaaDoorRpt
import Derived.Test.YtbgnfocfnjlabaaDoorBak
set_option linter.unusedVariables false
namespace Go.Proofs.YtbgnfocfnjlabaaDoor
open Go.RowKit

/-- Does the head, or the body, not fit? -/
def rwBad (g n x : Int) (m : Nat) : Prop := tr g 248 240 240 < (m : Int) ∨ n < 0 ∨ 65535 < n ∨ x < 0 ∨ (g = 1 ∧ 4294967295 < x)
theorem own_lit (w : World) (B : Nat) (xs : Bytes) (hB : B ≤ w.heap.size) (hm : xs.length ≤ 1000) : (w.alloc (.cells (cb xs).toArray 5)).ownsRow B 5 1 (.slice (some ⟨w.heap.size, 0, none⟩) xs.length xs.length) xs.length (cb xs) :=
  ⟨by rw [cb_length, Nat.mul_one], .inr ⟨w.heap.size, xs.length, (cb xs).toArray, rfl, hB, heap_alloc_new w _, Nat.le_refl _, by simp only [maxLen]; omega, by simp [cb_length], by rw [Nat.mul_one, ← cb_length xs]; simp⟩⟩
set_option maxRecDepth 100000 in
set_option maxHeartbeats 3200000 in
theorem rWrap_kind (w : World) (k g n x : Int) (u : Value) (hb : (kindOk k && gen g) = false) : Calls Tryd.prog 60 #[.agg #[.int .i64 k, .int .i64 g, .int .i64 n, .int .i64 x], u] w (GaveBE w [] 70) := by
  have HO : Hid (Only (w.heap.size ≤ ·) w (w.alloc (.cells #[.int .i64 k, .int .i64 g, .int .i64 n, .int .i64 x] 64))) := Lib.hid ((Only.refl _ w).alloc (fun _ h => h) _)
  have HK : Hid (∀ W, Calls Tryd.prog 55 #[.int .i64 k, .int .i64 g] W fun e w' => e = .returned (.bool false) ∧ W = w') := Lib.hid fun W => by have := rknown_c W k g; rwa [hb] at this
  clear hb
  go_enter Tryd.func60, Tryd.ntmps60
  go_wp2_with (go_at_call 55; (with_reducible refine (HK.out _).mono ?_); rintro ee w' ⟨rfl, rfl⟩)
  go_ret2
  exact ⟨_, rfl, Src.nil_ _, HO.out⟩
set_option maxRecDepth 100000 in
set_option maxHeartbeats 6400000 in
theorem rWrap_bad (w : World) (k g n x : Int) (A : Option Addr) (m c : Nat) (hb : (kindOk k && gen g) = true) (hbad : rwBad g n x m) : Calls Tryd.prog 60 #[.agg #[.int .i64 k, .int .i64 g, .int .i64 n, .int .i64 x], .slice A m c] w (GaveBE w [] 73) := by
  have HO : Hid (Only (w.heap.size ≤ ·) w (w.alloc (.cells #[.int .i64 k, .int .i64 g, .int .i64 n, .int .i64 x] 64))) := Lib.hid ((Only.refl _ w).alloc (fun _ h => h) _)
  have HK : Hid (∀ W, Calls Tryd.prog 55 #[.int .i64 k, .int .i64 g] W fun e w' => e = .returned (.bool true) ∧ W = w') := Lib.hid fun W => by have := rknown_c W k g; rwa [hb] at this
  obtain ⟨cap, hcap⟩ : ∃ z, z = tr g 248 240 240 := ⟨_, rfl⟩
  have HC : Hid (∀ W, Calls Tryd.prog 10 #[.int .i64 g] W fun e w' => e = .returned (.int .i64 cap) ∧ W = w') := Lib.hid fun W => by rw [hcap]; exact rCap_c W g
  unfold rwBad at hbad
  rw [← hcap] at hbad
  clear hb hcap
  by_cases h1 : cap < (m : Int)
  · clear hbad
    go_enter Tryd.func60, Tryd.ntmps60
    go_wp2_with (first
      | (go_at_call 55; (with_reducible refine (HK.out _).mono ?_); rintro ee w' ⟨rfl, rfl⟩)
      | (go_at_call 10; (with_reducible refine (HC.out _).mono ?_); rintro ee w' ⟨rfl, rfl⟩))
    go_ret2
    exact ⟨_, rfl, Src.nil_ _, HO.out⟩
  by_cases h2 : n < 0
  · clear hbad
    go_enter Tryd.func60, Tryd.ntmps60
    go_wp2_with (first
      | (go_at_call 55; (with_reducible refine (HK.out _).mono ?_); rintro ee w' ⟨rfl, rfl⟩)
      | (go_at_call 10; (with_reducible refine (HC.out _).mono ?_); rintro ee w' ⟨rfl, rfl⟩))
    go_ret2
    exact ⟨_, rfl, Src.nil_ _, HO.out⟩
  by_cases h3 : 65535 < n
  · clear hbad
    go_enter Tryd.func60, Tryd.ntmps60
    go_wp2_with (first
      | (go_at_call 55; (with_reducible refine (HK.out _).mono ?_); rintro ee w' ⟨rfl, rfl⟩)
      | (go_at_call 10; (with_reducible refine (HC.out _).mono ?_); rintro ee w' ⟨rfl, rfl⟩))
    go_ret2
    exact ⟨_, rfl, Src.nil_ _, HO.out⟩
  by_cases h4 : x < 0
  · clear hbad
    go_enter Tryd.func60, Tryd.ntmps60
    go_wp2_with (first
      | (go_at_call 55; (with_reducible refine (HK.out _).mono ?_); rintro ee w' ⟨rfl, rfl⟩)
      | (go_at_call 10; (with_reducible refine (HC.out _).mono ?_); rintro ee w' ⟨rfl, rfl⟩))
    go_ret2
    exact ⟨_, rfl, Src.nil_ _, HO.out⟩
  have h5 : g = 1 ∧ 4294967295 < x := by omega
  obtain ⟨rfl, h6⟩ := h5
  clear hbad
  go_enter Tryd.func60, Tryd.ntmps60
  go_wp2_with (first
    | (go_at_call 55; (with_reducible refine (HK.out _).mono ?_); rintro ee w' ⟨rfl, rfl⟩)
    | (go_at_call 10; (with_reducible refine (HC.out _).mono ?_); rintro ee w' ⟨rfl, rfl⟩))
  go_ret2
  exact ⟨_, rfl, Src.nil_ _, HO.out⟩

section
variable {P : Program} {w : World}
theorem wp_append_src {o : Oper} {a : Act} {K : Act → World → Prop} {Q : Exit → Act → World → Prop} (s x : Operand) (t : TypeId)
    (ho : o.op = .call { callee := .builtin .append, args := #[s, x], argTypes := #[t, t] })
    (base : Nat) (e : TypeId) (i : TypeInfo) (z : Value) (size bytes : Nat) (ht : P.underlying t = some (.slice e)) (hi : P.info? e = some i) (hz : i.zero = some z)
    (hsize : i.size = size) (hby : i.bytes = bytes) (hzs : z.cells.size = size) (hsz : 0 < size)
    (v : Value) (n : Nat) (xs : List Value) (hs : a.eval s = v) (hown : w.ownsRow base e size v n xs)
    (A : Option Addr) (m c : Nat) (news : List Value) (hx : a.eval x = .slice A m c) (hnone : A = none → m = 0 ∧ c = 0) (hl : news.length = m * size) (hnews : ∀ ad, A = some ad → ∀ j u, news[j]? = some u → w.cell? (ad.add j) = some u) (h1 : ∀ u ∈ news, u.oneCell' = true)
    (h63 : n + m ≤ maxLen) (hbytes : (n + m) * bytes ≤ 140737488355328) (hbase : base ≤ w.heap.size)
    (h : ∀ v' w', w'.ownsRow base e size v' (n + m) (xs ++ news) → w.grownBy w' v.ownBlock → K (a.put o.dst v') w') : o.wp P a w K Q := by
  cases A with
  | some ad => exact wp_append_at s x t ho base e i z size bytes ht hi hz hsize hby hzs hsz v n xs hs hown ad m c news hx hl (hnews ad rfl) h1 h63 hbytes hbase fun v' w' h2 h3 _ => h v' w' h2 h3
  | none =>
    obtain ⟨rfl, rfl⟩ := hnone rfl
    obtain rfl : news = [] := List.eq_nil_of_length_eq_zero (by simpa using hl)
    have hrun := run_append_owned_none (P := P) (w := w) base t o.type e i size ht hi v n xs hown
    have h' := h v w (by simpa using hown) (World.grownBy.refl w _)
    unfold Oper.wp
    simp [execOp, ho, resolve, invoke, builtin, hs, hx, hrun, Result.andThen]
    exact h'
end
/-- Under way: the bytes stand in a row of the call's own. -/
def OwnR (w1 wr : World) (v : Value) (xs : Bytes) : Prop := wr.ownsRow w1.heap.size 5 1 v xs.length (cb xs) ∧ Only (w1.heap.size ≤ ·) w1 wr
theorem OwnR.put {w1 wr w' : World} {v v' : Value} {xs ys : Bytes} (h : OwnR w1 wr v xs) (h' : w'.ownsRow w1.heap.size 5 1 v' ys.length (cb ys)) (ho : Only (w1.heap.size ≤ ·) wr w') : OwnR w1 w' v' ys := ⟨h', h.2.trans ho⟩
def sliceLen : Value → Nat
  | .slice _ n _ => n
  | _ => 0

set_option maxRecDepth 100000 in
set_option maxHeartbeats 12800000 in
theorem rWrap_one (w : World) (k n x : Nat) (A : Option Addr) (m c : Nat) (body : Bytes) (hs : Src w (.slice A m c) body) (hk : kindOk (k : Int) = true) (hn : n < 65536) (hx : x < 4294967296) (hm : m ≤ 248) :
    Calls Tryd.prog 60 #[.agg #[.int .i64 (k : Nat), .int .i64 1, .int .i64 (n : Nat), .int .i64 (x : Nat)], .slice A m c] w (GaveBE w (wrapP k 1 n x body) 0) := by
  obtain ⟨i0', hi0, hz0, hz1, hz2⟩ := info_parts info8
  have HI8 := Lib.hid (And.intro hi0 (And.intro hz0 (And.intro hz1 hz2)))
  clear hi0 hz0 hz1 hz2
  have hk8 := kind_lt hk
  obtain ⟨w1, hw1⟩ : ∃ w1, w1 = w.alloc (.cells #[.int .i64 (k : Nat), .int .i64 1, .int .i64 (n : Nat), .int .i64 (x : Nat)] 64) := ⟨_, rfl⟩
  have HO : Hid (Only (w.heap.size ≤ ·) w w1) := Lib.hid (by rw [hw1]; exact (Only.refl _ w).alloc (fun _ h => h) _)
  have HHD : Hid (Blk w1 w.heap.size 64 [.int .i64 (k : Nat), .int .i64 1, .int .i64 (n : Nat), .int .i64 (x : Nat)]) := Lib.hid (by rw [hw1]; exact Blk.new w 64 _)
  have HZ : Hid (w.heap.size < w1.heap.size) := Lib.hid HHD.out.lt
  have KC : Hid (∀ W, Only (w1.heap.size ≤ ·) w1 W → W.cell? ⟨w.heap.size, 0, none⟩ = some (.int .i64 (k : Nat)) ∧ W.cell? ⟨w.heap.size, 1, none⟩ = some (.int .i64 1) ∧ W.cell? ⟨w.heap.size, 2, none⟩ = some (.int .i64 (n : Nat)) ∧ W.cell? ⟨w.heap.size, 3, none⟩ = some (.int .i64 (x : Nat))) := Lib.hid fun W hW => (HHD.out.later hW).four
  have HSW : Hid (∀ W, Only (w1.heap.size ≤ ·) w1 W → Src W (.slice A m c) body) := Lib.hid fun W hW => hs.later (on_new HO.out hW)
  have hme : m = body.length := by
    obtain ⟨A', c', e, _⟩ := hs
    simp only [Value.slice.injEq] at e
    exact e.2.1
  have HMB := Lib.hid hme
  have HAN : Hid (A = none → m = 0 ∧ c = 0) := Lib.hid fun e => by
    obtain ⟨A', c', e2, ht, hA, _⟩ := hs
    simp only [Value.slice.injEq] at e2
    obtain ⟨rfl, e3, rfl⟩ := e2
    subst e
    refine ⟨?_, hA rfl⟩
    rw [hme]
    rcases Nat.eq_zero_or_pos body.length with h0 | h0
    · exact h0
    · obtain ⟨ad, ea, _⟩ := ht.2 h0
      cases ea
  have HSC : Hid (∀ W, Only (w1.heap.size ≤ ·) w1 W → ∀ ad, A = some ad → ∀ j u, (cb body)[j]? = some u → W.cell? (ad.add j) = some u) := Lib.hid fun W hW ad e j u hu => by
    obtain ⟨A', c', e2, ht, _⟩ := HSW.out W hW
    simp only [Value.slice.injEq] at e2
    obtain ⟨rfl, e3, rfl⟩ := e2
    exact ht.src ad e j u hu
  have HK : Hid (∀ W, Calls Tryd.prog 55 #[.int .i64 (k : Nat), .int .i64 1] W fun e w' => e = .returned (.bool true) ∧ W = w') := Lib.hid fun W => by
    have := rknown_c W (k : Nat) 1
    rwa [hk, show gen (1 : Int) = true from rfl] at this
  have HC : Hid (∀ W, Calls Tryd.prog 10 #[.int .i64 1] W fun e w' => e = .returned (.int .i64 248) ∧ W = w') := Lib.hid fun W => by
    have := rCap_c W 1
    rwa [show tr (1 : Int) 248 240 240 = 248 from rfl] at this
  have HIW : Hid (∀ W, Calls Tryd.prog 57 #[.int .i64 1] W fun e w' => e = .returned (.int .i64 4) ∧ W = w') := Lib.hid fun W => by
    have := rIdWidth_c W 1
    rwa [show tr (1 : Int) 4 8 8 = 4 from rfl] at this
  have HP : Hid (∀ (W : World) (v : Value) (xs : Bytes) (a q : Nat), OwnR w1 W v xs → xs.length ≤ 100 → q ≤ 8 → a < 9223372036854775808 → Calls Tryd.prog 86 #[v, .int .i64 a, .int .i64 q] W fun e w' => ∃ v', e = .returned v' ∧ OwnR w1 w' v' (xs ++ le a q)) := Lib.hid fun W v xs a q h hl hq ha => (rput_c W w1.heap.size v xs a q h.2.size h.1 (by omega) ha).mono fun e w' ⟨v', e1, e2, e3⟩ => ⟨v', e1, h.put e2 e3⟩
  have HPN : Hid (∀ (W : World) (v : Value), OwnR w1 W v [UInt8.ofNat k, UInt8.ofNat 1] → Calls Tryd.prog 86 #[v, .int .i64 (n : Nat), .int .i64 2] W fun e w' => ∃ v', e = .returned v' ∧ OwnR w1 w' v' ([UInt8.ofNat k, UInt8.ofNat 1] ++ le n 2)) := Lib.hid fun W v h => HP.out W v _ n 2 h (by simp) (by omega) (by omega)
  have HPX : Hid (∀ (W : World) (v : Value), OwnR w1 W v ([UInt8.ofNat k, UInt8.ofNat 1] ++ le n 2) → Calls Tryd.prog 86 #[v, .int .i64 (x : Nat), .int .i64 4] W fun e w' => ∃ v', e = .returned v' ∧ OwnR w1 w' v' (([UInt8.ofNat k, UInt8.ofNat 1] ++ le n 2) ++ le x 4)) := Lib.hid fun W v h => HP.out W v _ x 4 h (by simp [le_length]) (by omega) (by omega)
  have hwk : IntKind.u8.wrap (k : Int) = (k : Int) := by unfold IntKind.wrap; simp [IntKind.signed, IntKind.bits]; omega
  
  have HM0 : Hid (∀ W, Only (w1.heap.size ≤ ·) w1 W → OwnR w1 (W.alloc (.cells #[.int .u8 (k : Nat), .int .u8 1] 5)) (.slice (some ⟨W.heap.size, 0, none⟩) 2 2) [UInt8.ofNat k, UInt8.ofNat 1]) := Lib.hid fun W hW => by
    have h := own_lit W w1.heap.size [UInt8.ofNat k, UInt8.ofNat 1] hW.size (by simp)
    have e : (cb [UInt8.ofNat k, UInt8.ofNat 1]).toArray = #[.int .u8 (k : Nat), .int .u8 1] := by
      have e1 : (UInt8.ofNat k).toNat = k := by simp; omega
      have e2 : (UInt8.ofNat 1).toNat = 1 := rfl
      simp only [cb, List.map_cons, List.map_nil, e1, e2]
      rfl
    rw [e] at h
    exact ⟨h, hW.alloc (fun _ h => h) _⟩
  have hc1 : ¬ (248 : Int) < (m : Int) := by omega
  have hc2 : ¬ (65535 : Int) < (n : Int) := by omega
  have hc3 : ¬ (n : Int) < 0 := by omega
  have hc4 : ¬ (x : Int) < 0 := by omega
  have hc5 : ¬ (4294967295 : Int) < (x : Int) := by omega
  
  obtain ⟨Y, hY⟩ : ∃ Y, Y = (([UInt8.ofNat k, UInt8.ofNat 1] ++ le n 2) ++ le x 4) ++ body := ⟨_, rfl⟩
  have HY := Lib.hid hY
  obtain ⟨ny, hny⟩ : ∃ z, z = Y.length := ⟨_, rfl⟩
  have HNY := Lib.hid hny
  have HYL : ny ≤ 256 := by rw [hny, hY]; simp [le_length]; omega
  have HFY : Hid (wrapP k 1 n x body = Y ++ List.replicate (256 - ny) 0) := Lib.hid (by
    have hh : ∀ y : Nat, y < 256 → le y 1 = [UInt8.ofNat y] := fun y hy => by
      rw [le_cons]
      have : y % 256 = y := Nat.mod_eq_of_lt hy
      rw [this]
      rfl
    have e : headB k 1 n x ++ body = Y := by
      rw [hY]
      unfold headB
      rw [hh k hk8, hh 1 (by omega)]
      
      show [UInt8.ofNat k] ++ ([UInt8.ofNat 1] ++ (le n 2 ++ ([] ++ le x 4))) ++ body = _
      simp only [List.append_assoc, List.cons_append, List.nil_append]
    unfold wrapP padB
    rw [e, ← hny]
    exact if_pos rfl)
  clear hs hk hn hx hme hY hny HP
  go_enter Tryd.func60, Tryd.ntmps60
  go_upto_region 1 with (fail)
  rw [← hw1]
  clear hw1
  have HL : Hid (Only (w1.heap.size ≤ ·) w1 w1) := Lib.hid (Only.refl _ _)
  obtain ⟨i0, i1, i2, i3⟩ := KC.out _ HL.out
  have j0 := (HHD.out.alloc (.cells #[.int .u8 (k : Nat), .int .u8 1] 5)).four
  obtain ⟨j0, j1, j2, j3⟩ := j0
  go_upto_region 8 with (first
    | (go_at_call 55; (with_reducible refine (HK.out _).mono ?_); rintro ee w' ⟨rfl, rfl⟩)
    | (go_at_call 10; (with_reducible refine (HC.out _).mono ?_); rintro ee w' ⟨rfl, rfl⟩)
    | (go_at_call 86; (with_reducible refine (HPN.out _ _ (HM0.out _ HL.out)).mono ?_); rintro ee w2 ⟨v2, rfl, hm2⟩; have HM := Lib.hid hm2; clear hm2 i0 i1 i2 i3 j0 j1 j2 j3; (obtain ⟨i0, i1, i2, i3⟩ := KC.out _ HM.out.2))
    | (go_at_call 86; (with_reducible refine (HPX.out _ _ HM.out).mono ?_); rintro ee w2 ⟨v2, rfl, hm2⟩; (replace HM := Lib.hid hm2); clear hm2 i0 i1 i2 i3; (obtain ⟨i0, i1, i2, i3⟩ := KC.out _ HM.out.2)))
  clear i0 i1 i2 i3
  replace HM : Hid (OwnR w1 w2.drew v2 _) := Lib.hid ⟨HM.out.1, HM.out.2.drew⟩
  refine wp_region_list (B := [false, false, false, false, false, false, false, false, false, false]) (S := (fun W => W.cell? ⟨w.heap.size, 0, none⟩ = some (.int .i64 (k : Nat)) ∧ W.cell? ⟨w.heap.size, 1, none⟩ = some (.int .i64 1) ∧ W.cell? ⟨w.heap.size, 2, none⟩ = some (.int .i64 (n : Nat)) ∧ W.cell? ⟨w.heap.size, 3, none⟩ = some (.int .i64 (x : Nat)))) (by kernel_rfl) (by kernel_rfl) (by kernel_rfl) (KC.out _ HM.out.2) (fun hsel hHeld => ?_)
  obtain ⟨wz, hwz⟩ : ∃ wz, wz = w2.drew := ⟨_, rfl⟩
  rw [← hwz] at HM hHeld
  rw [← hwz]
  clear hwz
  refine oneA 0 59 hsel (h := ?_)
  simp only [Act.put, List.setIfInBounds_toArray, List.set_cons_zero, List.set_cons_succ]
  refine oneA 1 60 hsel (h := ?_)
  simp only [Act.put, List.setIfInBounds_toArray, List.set_cons_zero, List.set_cons_succ]
  refine oneA 2 61 hsel (h := ?_)
  simp only [Act.put, List.setIfInBounds_toArray, List.set_cons_zero, List.set_cons_succ]
  refine oneA 3 62 hsel (h := ?_)
  simp only [Act.put, List.setIfInBounds_toArray, List.set_cons_zero, List.set_cons_succ]
  refine oneA 4 63 hsel (h := ?_)
  simp only [Act.put, List.setIfInBounds_toArray, List.set_cons_zero, List.set_cons_succ]
  refine oneA 7 66 hsel (h := ?_)
  simp only [Act.put, List.setIfInBounds_toArray, List.set_cons_zero, List.set_cons_succ]
  refine wpAnyL_ready (rs := [5]) (by kernel_rfl) (by kernel_rfl) (by simp) ?_
  refine AllReadyL.cons (o := ?_) ?_ (fun K hK => ?_) AllReadyL.nil
  case refine_2 => (simp only [List.getElem?_cons_succ, List.getElem?_cons_zero]; rfl)
  go_simp
  (go_at_call 57; (with_reducible refine (HIW.out _).mono ?_); rintro ee w' ⟨rfl, rfl⟩)
  go_wp2_with (fail)
  clear hHeld
  refine hK.out _ _ (KC.out _ HM.out.2) (fun hHeld => ?_)
  clear hK K
  try simp only [List.set_cons_zero, List.set_cons_succ]
  refine wpAnyL_ready (rs := [6]) (by kernel_rfl) (by kernel_rfl) (by simp) ?_
  refine AllReadyL.cons (o := ?_) ?_ (fun K hK => ?_) AllReadyL.nil
  case refine_2 => (simp only [List.getElem?_cons_succ, List.getElem?_cons_zero]; rfl)
  go_simp
  (go_at_call 86; (with_reducible refine (HPX.out _ _ HM.out).mono ?_); rintro ee w5 ⟨v5, rfl, hm2⟩; (replace HM := Lib.hid hm2); clear hm2)
  go_wp2_with (fail)
  clear hHeld
  refine hK.out _ _ (KC.out _ HM.out.2) (fun hHeld => ?_)
  clear hK K
  try simp only [List.set_cons_zero, List.set_cons_succ]
  refine wpAnyL_ready (rs := [8]) (by kernel_rfl) (by kernel_rfl) (by simp) ?_
  refine AllReadyL.cons (o := ?_) ?_ (fun K hK => ?_) AllReadyL.nil
  case refine_2 => (simp only [List.getElem?_cons_succ, List.getElem?_cons_zero]; rfl)
  rw [if_pos (by kernel_rfl)]
  refine wp_append_src (.tmp 65) (.tmp 66) 27 rfl w1.heap.size 5 i0' _ 1 1 Tryd.underlying27 HI8.out.1 HI8.out.2.1 HI8.out.2.2.1 HI8.out.2.2.2 (by rfl) (by omega) _ _ _ rfl HM.out.1 A m c (cb body) rfl HAN.out (by rw [cb_length, HMB.out, Nat.mul_one]) (HSC.out _ HM.out.2) (cb_one _) (by simp [le_length, maxLen]; omega) (by simp [le_length]; omega) HM.out.2.size ?_
  intro v6 w6 ho' hg'
  have HM6 : Hid (OwnR w1 w6 v6 Y) := Lib.hid (HM.out.put (by rw [HY.out, cb_append, List.length_append, ← HMB.out]; exact ho') (Only.grown (F := (w1.heap.size ≤ ·)) (Only.refl _ _) hg' (fun j hj => Nat.le_trans HM.out.2.size hj) (fun q hq => (World.ownsRow.lt HM.out.1 q hq).1)))
  clear ho' hg'
  clear hHeld
  refine hK.out _ _ (KC.out _ HM6.out.2) (fun hHeld => ?_)
  clear hK K
  try simp only [Act.put, List.setIfInBounds_toArray, List.set_cons_zero, List.set_cons_succ]
  refine oneA 9 6 hsel (h := ?_)
  simp only [Act.put, List.setIfInBounds_toArray, List.set_cons_zero, List.set_cons_succ]
  refine wpAnyL_done (by kernel_rfl) (by kernel_rfl) ?_ _
  clear hsel hHeld
  go_wp2_with (fail)
  obtain ⟨R, cc, rfl, _⟩ := raw_of_own HM6.out.1
  go_loopw [6] (fun bv wr => ∃ (t : Nat) (R : Option Addr) (cc : Nat), ny + t ≤ 256 ∧ bv = .slice R (ny + t) cc ∧ Hid (OwnR w1 wr (.slice R (ny + t) cc) (Y ++ List.replicate t 0))) (fun bv _ => 256 - (sliceLen bv))
  case atStart => exact ⟨0, R, cc, by omega, by rw [HNY.out]; rfl, Lib.hid (by have h := HM6.out; rw [← HNY.out] at h; simpa using h)⟩
  case round =>
    obtain ⟨t, R, cc, ht, rfl, HW⟩ := hrel
    by_cases hlt : ny + t < 256
    · have hli : ((ny + t : Nat) : Int) < 256 := by omega
      have hli2 : (ny : Int) + (t : Int) < 256 := by omega
      have HW2 : Hid (wr.ownsRow w1.heap.size 5 1 (.slice R (ny + t) cc) (ny + t) (cb (Y ++ List.replicate t 0))) := Lib.hid (by have h := HW.out.1; rwa [List.length_append, List.length_replicate, ← HNY.out] at h)
      go_wp2_with (at_builtin; refine wpList_append_own _ rfl (.tmp 71) (.tmp 72) 27 rfl w1.heap.size 5 i0' _ 1 1 Tryd.underlying27 HI8.out.1 HI8.out.2.1 HI8.out.2.2.1 HI8.out.2.2.2 (by rfl) (by omega) _ _ _ rfl (HW2.out.alloc _) ⟨wr.heap.size, 0, none⟩ 1 1 [.int .u8 0] rfl (by rfl) (one_cell wr 5 _) (by simp [Value.oneCell']) (by simp only [maxLen]; omega) (by omega) (by have := HW.out.2.size; simp; omega) ?_; intro v' w' ho' hg' _; have HX : Hid (OwnR w1 w' v' (Y ++ List.replicate (t + 1) 0)) := Lib.hid (HW.out.put (by rw [List.replicate_succ', ← List.append_assoc, cb_append, List.length_append, List.length_append, List.length_replicate, ← HNY.out]; exact ho') (Only.grown (F := (w1.heap.size ≤ ·)) ((Only.refl _ _).alloc (fun j hj => Nat.le_trans HW.out.2.size hj) _) hg' (fun j hj => Nat.le_trans HW.out.2.size hj) (fun q hq => (World.ownsRow.lt HW2.out q hq).1))); (obtain ⟨R2, c2, rfl, _⟩ := raw_of_own ho'); clear ho' hg')
      go_roundw
      case rel => exact ⟨t + 1, R2, c2, by omega, rfl, HX⟩
      case measure => simp [sliceLen]; omega
    · have hli : ¬ ((ny + t : Nat) : Int) < 256 := by omega
      have hli2 : ¬ (ny : Int) + (t : Int) < 256 := by omega
      have HT : Hid (t = 256 - ny) := Lib.hid (by omega)
      obtain ⟨i0, i1, i2, i3⟩ := KC.out _ HW.out.2
      go_wp2
      go_ret2
      exact ⟨_, rfl, by rw [HFY.out, ← HT.out]; exact Src.own HW.out.1, on_new HO.out HW.out.2⟩

set_option maxRecDepth 100000 in
set_option maxHeartbeats 12800000 in
theorem rWrap_two (w : World) (k g n x : Nat) (A : Option Addr) (m c : Nat) (body : Bytes) (hs : Src w (.slice A m c) body) (hk : kindOk (k : Int) = true) (hg : g = 2 ∨ g = 3) (hn : n < 65536) (hx : x < 9223372036854775808) (hm : m ≤ 240) :
    Calls Tryd.prog 60 #[.agg #[.int .i64 (k : Nat), .int .i64 (g : Nat), .int .i64 (n : Nat), .int .i64 (x : Nat)], .slice A m c] w (GaveBE w (wrapP k g n x body) 0) := by
  obtain ⟨i0', hi0, hz0, hz1, hz2⟩ := info_parts info8
  have HI8 := Lib.hid (And.intro hi0 (And.intro hz0 (And.intro hz1 hz2)))
  clear hi0 hz0 hz1 hz2
  have hk8 := kind_lt hk
  obtain ⟨w1, hw1⟩ : ∃ w1, w1 = w.alloc (.cells #[.int .i64 (k : Nat), .int .i64 (g : Nat), .int .i64 (n : Nat), .int .i64 (x : Nat)] 64) := ⟨_, rfl⟩
  have HO : Hid (Only (w.heap.size ≤ ·) w w1) := Lib.hid (by rw [hw1]; exact (Only.refl _ w).alloc (fun _ h => h) _)
  have HHD : Hid (Blk w1 w.heap.size 64 [.int .i64 (k : Nat), .int .i64 (g : Nat), .int .i64 (n : Nat), .int .i64 (x : Nat)]) := Lib.hid (by rw [hw1]; exact Blk.new w 64 _)
  have HZ : Hid (w.heap.size < w1.heap.size) := Lib.hid HHD.out.lt
  have KC : Hid (∀ W, Only (w1.heap.size ≤ ·) w1 W → W.cell? ⟨w.heap.size, 0, none⟩ = some (.int .i64 (k : Nat)) ∧ W.cell? ⟨w.heap.size, 1, none⟩ = some (.int .i64 (g : Nat)) ∧ W.cell? ⟨w.heap.size, 2, none⟩ = some (.int .i64 (n : Nat)) ∧ W.cell? ⟨w.heap.size, 3, none⟩ = some (.int .i64 (x : Nat))) := Lib.hid fun W hW => (HHD.out.later hW).four
  have HSW : Hid (∀ W, Only (w1.heap.size ≤ ·) w1 W → Src W (.slice A m c) body) := Lib.hid fun W hW => hs.later (on_new HO.out hW)
  have hme : m = body.length := by
    obtain ⟨A', c', e, _⟩ := hs
    simp only [Value.slice.injEq] at e
    exact e.2.1
  have HMB := Lib.hid hme
  have HAN : Hid (A = none → m = 0 ∧ c = 0) := Lib.hid fun e => by
    obtain ⟨A', c', e2, ht, hA, _⟩ := hs
    simp only [Value.slice.injEq] at e2
    obtain ⟨rfl, e3, rfl⟩ := e2
    subst e
    refine ⟨?_, hA rfl⟩
    rw [hme]
    rcases Nat.eq_zero_or_pos body.length with h0 | h0
    · exact h0
    · obtain ⟨ad, ea, _⟩ := ht.2 h0
      cases ea
  have HSC : Hid (∀ W, Only (w1.heap.size ≤ ·) w1 W → ∀ ad, A = some ad → ∀ j u, (cb body)[j]? = some u → W.cell? (ad.add j) = some u) := Lib.hid fun W hW ad e j u hu => by
    obtain ⟨A', c', e2, ht, _⟩ := HSW.out W hW
    simp only [Value.slice.injEq] at e2
    obtain ⟨rfl, e3, rfl⟩ := e2
    exact ht.src ad e j u hu
  have HK : Hid (∀ W, Calls Tryd.prog 55 #[.int .i64 (k : Nat), .int .i64 (g : Nat)] W fun e w' => e = .returned (.bool true) ∧ W = w') := Lib.hid fun W => by
    have := rknown_c W (k : Nat) (g : Nat)
    rwa [hk, show gen ((g : Nat) : Int) = true from by unfold gen; rw [decide_eq_true_eq]; omega] at this
  have HC : Hid (∀ W, Calls Tryd.prog 10 #[.int .i64 (g : Nat)] W fun e w' => e = .returned (.int .i64 240) ∧ W = w') := Lib.hid fun W => by
    have := rCap_c W (g : Nat)
    rwa [show tr ((g : Nat) : Int) 248 240 240 = 240 from by rcases hg with rfl | rfl <;> rfl] at this
  have HIW : Hid (∀ W, Calls Tryd.prog 57 #[.int .i64 (g : Nat)] W fun e w' => e = .returned (.int .i64 8) ∧ W = w') := Lib.hid fun W => by
    have := rIdWidth_c W (g : Nat)
    rwa [show tr ((g : Nat) : Int) 4 8 8 = 8 from by rcases hg with rfl | rfl <;> rfl] at this
  have HP : Hid (∀ (W : World) (v : Value) (xs : Bytes) (a q : Nat), OwnR w1 W v xs → xs.length ≤ 100 → q ≤ 8 → a < 9223372036854775808 → Calls Tryd.prog 86 #[v, .int .i64 a, .int .i64 q] W fun e w' => ∃ v', e = .returned v' ∧ OwnR w1 w' v' (xs ++ le a q)) := Lib.hid fun W v xs a q h hl hq ha => (rput_c W w1.heap.size v xs a q h.2.size h.1 (by omega) ha).mono fun e w' ⟨v', e1, e2, e3⟩ => ⟨v', e1, h.put e2 e3⟩
  have HPN : Hid (∀ (W : World) (v : Value), OwnR w1 W v [UInt8.ofNat k, UInt8.ofNat g] → Calls Tryd.prog 86 #[v, .int .i64 (n : Nat), .int .i64 2] W fun e w' => ∃ v', e = .returned v' ∧ OwnR w1 w' v' ([UInt8.ofNat k, UInt8.ofNat g] ++ le n 2)) := Lib.hid fun W v h => HP.out W v _ n 2 h (by simp) (by omega) (by omega)
  have HPZ : Hid (∀ (W : World) (v : Value), OwnR w1 W v ([UInt8.ofNat k, UInt8.ofNat g] ++ le n 2) → Calls Tryd.prog 86 #[v, .int .i64 0, .int .i64 4] W fun e w' => ∃ v', e = .returned v' ∧ OwnR w1 w' v' (([UInt8.ofNat k, UInt8.ofNat g] ++ le n 2) ++ le 0 4)) := Lib.hid fun W v h => HP.out W v _ 0 4 h (by simp [le_length]) (by omega) (by omega)
  have HPX : Hid (∀ (W : World) (v : Value), OwnR w1 W v (([UInt8.ofNat k, UInt8.ofNat g] ++ le n 2) ++ le 0 4) → Calls Tryd.prog 86 #[v, .int .i64 (x : Nat), .int .i64 8] W fun e w' => ∃ v', e = .returned v' ∧ OwnR w1 w' v' ((([UInt8.ofNat k, UInt8.ofNat g] ++ le n 2) ++ le 0 4) ++ le x 8)) := Lib.hid fun W v h => HP.out W v _ x 8 h (by simp [le_length]) (by omega) (by omega)
  have hwk : IntKind.u8.wrap (k : Int) = (k : Int) := by unfold IntKind.wrap; simp [IntKind.signed, IntKind.bits]; omega
  have hwg : IntKind.u8.wrap (g : Int) = (g : Int) := by unfold IntKind.wrap; simp [IntKind.signed, IntKind.bits]; omega
  have HM0 : Hid (∀ W, Only (w1.heap.size ≤ ·) w1 W → OwnR w1 (W.alloc (.cells #[.int .u8 (k : Nat), .int .u8 (g : Nat)] 5)) (.slice (some ⟨W.heap.size, 0, none⟩) 2 2) [UInt8.ofNat k, UInt8.ofNat g]) := Lib.hid fun W hW => by
    have h := own_lit W w1.heap.size [UInt8.ofNat k, UInt8.ofNat g] hW.size (by simp)
    have e : (cb [UInt8.ofNat k, UInt8.ofNat g]).toArray = #[.int .u8 (k : Nat), .int .u8 (g : Nat)] := by
      have e1 : (UInt8.ofNat k).toNat = k := by simp; omega
      have e2 : (UInt8.ofNat g).toNat = g := by simp; omega
      simp only [cb, List.map_cons, List.map_nil, e1, e2]
      skip
    rw [e] at h
    exact ⟨h, hW.alloc (fun _ h => h) _⟩
  have hc1 : ¬ (240 : Int) < (m : Int) := by omega
  have hc2 : ¬ (65535 : Int) < (n : Int) := by omega
  have hc3 : ¬ (n : Int) < 0 := by omega
  have hc4 : ¬ (x : Int) < 0 := by omega
  have hc5 : (((g : Nat) : Int) == 1) = false := by rw [beq_eq_false_iff_ne]; omega
  have hc6 : (1 : Int) < (g : Int) := by omega
  obtain ⟨Y, hY⟩ : ∃ Y, Y = ((([UInt8.ofNat k, UInt8.ofNat g] ++ le n 2) ++ le 0 4) ++ le x 8) ++ body := ⟨_, rfl⟩
  have HY := Lib.hid hY
  obtain ⟨ny, hny⟩ : ∃ z, z = Y.length := ⟨_, rfl⟩
  have HNY := Lib.hid hny
  have HYL : ny ≤ 256 := by rw [hny, hY]; simp [le_length]; omega
  have HFY : Hid (wrapP k g n x body = sealB (Y ++ List.replicate (256 - ny) 0) 4) := Lib.hid (by
    have hh : ∀ y : Nat, y < 256 → le y 1 = [UInt8.ofNat y] := fun y hy => by
      rw [le_cons]
      have : y % 256 = y := Nat.mod_eq_of_lt hy
      rw [this]
      rfl
    have e : headB k g n x ++ body = Y := by
      rw [hY]
      unfold headB
      rw [hh k hk8, hh g (by omega)]
      rw [show (gap (g : Int)).toNat = 4 from by rcases hg with rfl | rfl <;> rfl, show (tr (g : Int) 4 8 8).toNat = 8 from by rcases hg with rfl | rfl <;> rfl, show List.replicate 4 (0 : UInt8) = le 0 4 from rfl]
      
      simp only [List.append_assoc, List.cons_append, List.nil_append]
    unfold wrapP padB
    rw [e, ← hny]
    exact if_neg (by omega))
  clear hs hk hn hx hme hY hny hg HP
  go_enter Tryd.func60, Tryd.ntmps60
  go_upto_region 1 with (fail)
  rw [← hw1]
  clear hw1
  have HL : Hid (Only (w1.heap.size ≤ ·) w1 w1) := Lib.hid (Only.refl _ _)
  obtain ⟨i0, i1, i2, i3⟩ := KC.out _ HL.out
  have j0 := (HHD.out.alloc (.cells #[.int .u8 (k : Nat), .int .u8 (g : Nat)] 5)).four
  obtain ⟨j0, j1, j2, j3⟩ := j0
  go_upto_region 8 with (first
    | (go_at_call 55; (with_reducible refine (HK.out _).mono ?_); rintro ee w' ⟨rfl, rfl⟩)
    | (go_at_call 10; (with_reducible refine (HC.out _).mono ?_); rintro ee w' ⟨rfl, rfl⟩)
    | (go_at_call 86; (with_reducible refine (HPN.out _ _ (HM0.out _ HL.out)).mono ?_); rintro ee w2 ⟨v2, rfl, hm2⟩; have HM := Lib.hid hm2; clear hm2 i0 i1 i2 i3 j0 j1 j2 j3; (obtain ⟨i0, i1, i2, i3⟩ := KC.out _ HM.out.2))
    | (go_at_call 86; (with_reducible refine (HPZ.out _ _ HM.out).mono ?_); rintro ee w2 ⟨v2, rfl, hm2⟩; (replace HM := Lib.hid hm2); clear hm2 i0 i1 i2 i3; (obtain ⟨i0, i1, i2, i3⟩ := KC.out _ HM.out.2)))
  clear i0 i1 i2 i3
  replace HM : Hid (OwnR w1 w2.drew v2 _) := Lib.hid ⟨HM.out.1, HM.out.2.drew⟩
  refine wp_region_list (B := [false, false, false, false, false, false, false, false, false, false]) (S := (fun W => W.cell? ⟨w.heap.size, 0, none⟩ = some (.int .i64 (k : Nat)) ∧ W.cell? ⟨w.heap.size, 1, none⟩ = some (.int .i64 (g : Nat)) ∧ W.cell? ⟨w.heap.size, 2, none⟩ = some (.int .i64 (n : Nat)) ∧ W.cell? ⟨w.heap.size, 3, none⟩ = some (.int .i64 (x : Nat)))) (by kernel_rfl) (by kernel_rfl) (by kernel_rfl) (KC.out _ HM.out.2) (fun hsel hHeld => ?_)
  obtain ⟨wz, hwz⟩ : ∃ wz, wz = w2.drew := ⟨_, rfl⟩
  rw [← hwz] at HM hHeld
  rw [← hwz]
  clear hwz
  refine oneA 0 59 hsel (h := ?_)
  simp only [Act.put, List.setIfInBounds_toArray, List.set_cons_zero, List.set_cons_succ]
  refine oneA 1 60 hsel (h := ?_)
  simp only [Act.put, List.setIfInBounds_toArray, List.set_cons_zero, List.set_cons_succ]
  refine oneA 2 61 hsel (h := ?_)
  simp only [Act.put, List.setIfInBounds_toArray, List.set_cons_zero, List.set_cons_succ]
  refine oneA 3 62 hsel (h := ?_)
  simp only [Act.put, List.setIfInBounds_toArray, List.set_cons_zero, List.set_cons_succ]
  refine oneA 4 63 hsel (h := ?_)
  simp only [Act.put, List.setIfInBounds_toArray, List.set_cons_zero, List.set_cons_succ]
  refine oneA 7 66 hsel (h := ?_)
  simp only [Act.put, List.setIfInBounds_toArray, List.set_cons_zero, List.set_cons_succ]
  refine wpAnyL_ready (rs := [5]) (by kernel_rfl) (by kernel_rfl) (by simp) ?_
  refine AllReadyL.cons (o := ?_) ?_ (fun K hK => ?_) AllReadyL.nil
  case refine_2 => (simp only [List.getElem?_cons_succ, List.getElem?_cons_zero]; rfl)
  go_simp
  (go_at_call 57; (with_reducible refine (HIW.out _).mono ?_); rintro ee w' ⟨rfl, rfl⟩)
  go_wp2_with (fail)
  clear hHeld
  refine hK.out _ _ (KC.out _ HM.out.2) (fun hHeld => ?_)
  clear hK K
  try simp only [List.set_cons_zero, List.set_cons_succ]
  refine wpAnyL_ready (rs := [6]) (by kernel_rfl) (by kernel_rfl) (by simp) ?_
  refine AllReadyL.cons (o := ?_) ?_ (fun K hK => ?_) AllReadyL.nil
  case refine_2 => (simp only [List.getElem?_cons_succ, List.getElem?_cons_zero]; rfl)
  go_simp
  (go_at_call 86; (with_reducible refine (HPX.out _ _ HM.out).mono ?_); rintro ee w5 ⟨v5, rfl, hm2⟩; (replace HM := Lib.hid hm2); clear hm2)
  go_wp2_with (fail)
  clear hHeld
  refine hK.out _ _ (KC.out _ HM.out.2) (fun hHeld => ?_)
  clear hK K
  try simp only [List.set_cons_zero, List.set_cons_succ]
  refine wpAnyL_ready (rs := [8]) (by kernel_rfl) (by kernel_rfl) (by simp) ?_
  refine AllReadyL.cons (o := ?_) ?_ (fun K hK => ?_) AllReadyL.nil
  case refine_2 => (simp only [List.getElem?_cons_succ, List.getElem?_cons_zero]; rfl)
  rw [if_pos (by kernel_rfl)]
  refine wp_append_src (.tmp 65) (.tmp 66) 27 rfl w1.heap.size 5 i0' _ 1 1 Tryd.underlying27 HI8.out.1 HI8.out.2.1 HI8.out.2.2.1 HI8.out.2.2.2 (by rfl) (by omega) _ _ _ rfl HM.out.1 A m c (cb body) rfl HAN.out (by rw [cb_length, HMB.out, Nat.mul_one]) (HSC.out _ HM.out.2) (cb_one _) (by simp [le_length, maxLen]; omega) (by simp [le_length]; omega) HM.out.2.size ?_
  intro v6 w6 ho' hg'
  have HM6 : Hid (OwnR w1 w6 v6 Y) := Lib.hid (HM.out.put (by rw [HY.out, cb_append, List.length_append, ← HMB.out]; exact ho') (Only.grown (F := (w1.heap.size ≤ ·)) (Only.refl _ _) hg' (fun j hj => Nat.le_trans HM.out.2.size hj) (fun q hq => (World.ownsRow.lt HM.out.1 q hq).1)))
  clear ho' hg'
  clear hHeld
  refine hK.out _ _ (KC.out _ HM6.out.2) (fun hHeld => ?_)
  clear hK K
  try simp only [Act.put, List.setIfInBounds_toArray, List.set_cons_zero, List.set_cons_succ]
  refine oneA 9 6 hsel (h := ?_)
  simp only [Act.put, List.setIfInBounds_toArray, List.set_cons_zero, List.set_cons_succ]
  refine wpAnyL_done (by kernel_rfl) (by kernel_rfl) ?_ _
  clear hsel hHeld
  go_wp2_with (fail)
  obtain ⟨R, cc, rfl, _⟩ := raw_of_own HM6.out.1
  go_loopw [6] (fun bv wr => ∃ (t : Nat) (R : Option Addr) (cc : Nat), ny + t ≤ 256 ∧ bv = .slice R (ny + t) cc ∧ Hid (OwnR w1 wr (.slice R (ny + t) cc) (Y ++ List.replicate t 0))) (fun bv _ => 256 - (sliceLen bv))
  case atStart => exact ⟨0, R, cc, by omega, by rw [HNY.out]; rfl, Lib.hid (by have h := HM6.out; rw [← HNY.out] at h; simpa using h)⟩
  case round =>
    obtain ⟨t, R, cc, ht, rfl, HW⟩ := hrel
    by_cases hlt : ny + t < 256
    · have hli : ((ny + t : Nat) : Int) < 256 := by omega
      have hli2 : (ny : Int) + (t : Int) < 256 := by omega
      have HW2 : Hid (wr.ownsRow w1.heap.size 5 1 (.slice R (ny + t) cc) (ny + t) (cb (Y ++ List.replicate t 0))) := Lib.hid (by have h := HW.out.1; rwa [List.length_append, List.length_replicate, ← HNY.out] at h)
      go_wp2_with (at_builtin; refine wpList_append_own _ rfl (.tmp 71) (.tmp 72) 27 rfl w1.heap.size 5 i0' _ 1 1 Tryd.underlying27 HI8.out.1 HI8.out.2.1 HI8.out.2.2.1 HI8.out.2.2.2 (by rfl) (by omega) _ _ _ rfl (HW2.out.alloc _) ⟨wr.heap.size, 0, none⟩ 1 1 [.int .u8 0] rfl (by rfl) (one_cell wr 5 _) (by simp [Value.oneCell']) (by simp only [maxLen]; omega) (by omega) (by have := HW.out.2.size; simp; omega) ?_; intro v' w' ho' hg' _; have HX : Hid (OwnR w1 w' v' (Y ++ List.replicate (t + 1) 0)) := Lib.hid (HW.out.put (by rw [List.replicate_succ', ← List.append_assoc, cb_append, List.length_append, List.length_append, List.length_replicate, ← HNY.out]; exact ho') (Only.grown (F := (w1.heap.size ≤ ·)) ((Only.refl _ _).alloc (fun j hj => Nat.le_trans HW.out.2.size hj) _) hg' (fun j hj => Nat.le_trans HW.out.2.size hj) (fun q hq => (World.ownsRow.lt HW2.out q hq).1))); (obtain ⟨R2, c2, rfl, _⟩ := raw_of_own ho'); clear ho' hg')
      go_roundw
      case rel => exact ⟨t + 1, R2, c2, by omega, rfl, HX⟩
      case measure => simp [sliceLen]; omega
    · have hli : ¬ ((ny + t : Nat) : Int) < 256 := by omega
      have hli2 : ¬ (ny : Int) + (t : Int) < 256 := by omega
      have HT : Hid (t = 256 - ny) := Lib.hid (by omega)
      obtain ⟨i0, i1, i2, i3⟩ := KC.out _ HW.out.2
      have HSL : Hid (Calls Tryd.prog 59 #[.slice R (ny + t) cc, .int .i64 4] wr (GaveB wr (sealB (Y ++ List.replicate t 0) 4))) := Lib.hid (rSeal_s wr _ _ (Src.own HW.out.1) (by rw [List.length_append, List.length_replicate, ← HNY.out]; omega))
      go_wp2_with (go_at_call 59; (with_reducible refine HSL.out.mono ?_); rintro ee w9 ⟨v9, rfl, hs9, ho9⟩; have HS9 := Lib.hid hs9; have HO9 := Lib.hid ho9; clear hs9 ho9)
      go_ret2
      exact ⟨_, rfl, by rw [HFY.out, ← HT.out]; exact HS9.out, on_new (on_new HO.out HW.out.2) HO9.out⟩

theorem wrap_bad {k g n x : Int} {body : Bytes} (hk : (kindOk k && gen g) = true) (hb : rwBad g n x body.length) : (wrapC k g n x body).sp = true := by
  rw [Bool.and_eq_true] at hk
  obtain ⟨hk1, hg⟩ := hk
  unfold wrapC
  have fin : (stC k g n x).sp = true → ((stC k g n x).write body).sp = true := fun h => by rw [Cur.write_sp h]; exact h
  have finx : ∀ c : Cur, c.sp = true → (c.put x (tr g 4 8 8)).sp = true := fun c h => by rw [Cur.put_sp h]; exact h
  have fint : ∀ c : Cur, c.sp = true → (c.take (gap g)).sp = true := fun c h => by rw [Cur.take_sp h]; exact h
  have bad : ∀ (c : Cur) (a w : Int), fits a w = false → (c.put a w).sp = true := fun c a w h => by unfold Cur.put; rw [h]; rfl
  by_cases h2 : n < 0 ∨ 65535 < n
  · refine fin (finx _ (fint _ (bad _ _ _ ?_)))
    unfold fits wide
    have e : (256 : Int) ^ (2 : Int).toNat = 65536 := by decide
    rw [e]
    rcases h2 with h2 | h2
    · rw [decide_eq_false (show ¬ 0 ≤ n by omega)]
      rfl
    · rw [decide_eq_false (show ¬ n / 65536 = 0 by omega)]
      simp
  by_cases h3 : x < 0 ∨ (g = 1 ∧ 4294967295 < x)
  · refine fin (bad _ _ _ ?_)
    unfold fits
    rcases h3 with h3 | ⟨rfl, h3⟩
    · rw [decide_eq_false (show ¬ 0 ≤ x by omega)]
      simp
    · have e : (256 : Int) ^ (tr 1 4 8 8).toNat = 4294967296 := by decide
      rw [e, decide_eq_false (show ¬ x / 4294967296 = 0 by omega)]
      simp
  have h1 : tr g 248 240 240 < (body.length : Int) := by
    unfold rwBad at hb
    omega
  obtain ⟨g', rfl⟩ : ∃ q : Nat, g = (q : Int) := ⟨g.toNat, by have := (gen_iff g).1 hg; omega⟩
  obtain ⟨n', rfl⟩ : ∃ q : Nat, n = (q : Int) := ⟨n.toNat, by omega⟩
  obtain ⟨x', rfl⟩ : ∃ q : Nat, x = (q : Int) := ⟨x.toNat, by omega⟩
  obtain ⟨k', rfl⟩ : ∃ q : Nat, k = (q : Int) := ⟨k.toNat, by unfold kindOk at hk1; rw [decide_eq_true_eq] at hk1; omega⟩
  unfold Cur.write
  rw [if_neg]
  · rfl
  · intro hh
    obtain ⟨hsp, j, e, hj⟩ := Cur.has_parts hh
    by_cases hx : fits (x' : Int) (tr (g' : Int) 4 8 8) = true
    · rw [st_fill hg (kind_lt hk1) (by omega) hx] at hj
      have hl := headB_length (k := k') (n := n') (x := x') hg
      have h2 : (fill 256 (headB k' g' n' x')).at_ = (headB k' g' n' x').length := rfl
      have h4 : (fill 256 (headB k' g' n' x')).b.length = 256 := padB_length (by rw [hl]; rcases gen_three hg with rfl | rfl | rfl <;> decide)
      rw [h2, h4, hl] at hj
      have h5 : (tr (g' : Int) 8 16 16).toNat + (tr (g' : Int) 248 240 240).toNat = 256 ∧ 0 ≤ tr (g' : Int) 248 240 240 := by rcases gen_three hg with rfl | rfl | rfl <;> decide
      omega
    · rw [show stC (k' : Int) (g' : Int) (n' : Int) (x' : Int) = _ from rfl] at hsp
      unfold stC at hsp
      rw [bad _ _ _ (by simpa using hx)] at hsp
      cases hsp
theorem wrap_good {k g n x : Nat} {body : Bytes} (hk : (kindOk (k : Int) && gen (g : Int)) = true) (hb : ¬ rwBad g n x body.length) (hx : x < 9223372036854775808) : wrapE k g n x body = 0 ∧ wrapB k g n x body = wrapP k g n x body := by
  have hk2 := hk
  rw [Bool.and_eq_true] at hk2
  obtain ⟨hk1, hg⟩ := hk2
  unfold rwBad at hb
  have hw : wrapC k g n x body = fill 256 (headB k g n x ++ body) := by
    unfold wrapC
    have hl := headB_length (k := k) (n := n) (x := x) hg
    have h5 : (tr (g : Int) 8 16 16).toNat + (tr (g : Int) 248 240 240).toNat = 256 ∧ 0 ≤ tr (g : Int) 248 240 240 := by rcases gen_three hg with rfl | rfl | rfl <;> decide
    have hf : fits (x : Int) (tr (g : Int) 4 8 8) = true := by
      rcases gen_three hg with rfl | rfl | rfl
      · exact fits_nat (k := 4) rfl (by decide) (by decide) (by omega)
      · exact fits_nat (k := 8) rfl (by decide) (by decide) (by omega)
      · exact fits_nat (k := 8) rfl (by decide) (by decide) (by omega)
    rw [st_fill hg (kind_lt hk1) (by omega) hf, fill_write (by rw [hl]; omega)]
  unfold wrapE wrapB
  rw [if_pos hk, if_pos hk, hw]
  refine ⟨by unfold finE fill; simp, ?_⟩
  unfold finB wrapP fill
  by_cases h1 : g = 1
  · subst h1
    simp
  · rw [if_neg (by simp), if_neg (by omega), if_neg h1]
theorem rWrap_c (w : World) (k g n x : Int) (u : Value) (body : Bytes) (hs : Src w u body) (h4 : I64 x) :
    Calls Tryd.prog 60 #[.agg #[.int .i64 k, .int .i64 g, .int .i64 n, .int .i64 x], u] w (GaveBE w (wrapB k g n x body) (wrapE k g n x body)) := by
  by_cases hk : (kindOk k && gen g) = true
  rotate_left
  · have hk' : (kindOk k && gen g) = false := by simpa using hk
    have h := rWrap_kind w k g n x u hk'
    unfold wrapB wrapE
    rwa [if_neg hk, if_neg hk]
  have hs0 := hs
  obtain ⟨A, c, rfl, _⟩ := hs0
  by_cases hb : rwBad g n x body.length
  · have h := rWrap_bad w k g n x A body.length c hk hb
    have hsp := wrap_bad hk hb
    unfold wrapB wrapE finB finE
    rwa [if_pos hk, if_pos hk, if_pos hsp, if_pos hsp]
  · have hk2 := hk
    rw [Bool.and_eq_true] at hk2
    obtain ⟨hk1, hg⟩ := hk2
    have hb0 := hb
    obtain ⟨b1, b2, b3, b4, b5⟩ : (body.length : Int) ≤ tr g 248 240 240 ∧ 0 ≤ n ∧ n ≤ 65535 ∧ 0 ≤ x ∧ (g = 1 → x ≤ 4294967295) := by
      unfold rwBad at hb
      exact ⟨by omega, by omega, by omega, by omega, fun h => by omega⟩
    clear hb
    obtain ⟨g', rfl⟩ : ∃ q : Nat, g = (q : Int) := ⟨g.toNat, by have := (gen_iff g).1 hg; omega⟩
    obtain ⟨n', rfl⟩ : ∃ q : Nat, n = (q : Int) := ⟨n.toNat, by omega⟩
    obtain ⟨x', rfl⟩ : ∃ q : Nat, x = (q : Int) := ⟨x.toNat, by omega⟩
    obtain ⟨k', rfl⟩ : ∃ q : Nat, k = (q : Int) := ⟨k.toNat, by unfold kindOk at hk1; rw [decide_eq_true_eq] at hk1; omega⟩
    have hx : x' < 9223372036854775808 := by have := h4.2; omega
    obtain ⟨e1, e2⟩ := wrap_good hk hb0 hx
    rw [e1, e2]
    rcases gen_three hg with rfl | rfl | rfl
    · exact rWrap_one w k' n' x' A body.length c body hs hk1 (by omega) (by have := b5 rfl; omega) (by have h1 : tr ((1 : Nat) : Int) 248 240 240 = 248 := rfl; omega)
    · exact rWrap_two w k' 2 n' x' A body.length c body hs hk1 (.inl rfl) (by omega) hx (by have h1 : tr ((2 : Nat) : Int) 248 240 240 = 240 := rfl; omega)
    · exact rWrap_two w k' 3 n' x' A body.length c body hs hk1 (.inr rfl) (by omega) hx (by have h1 : tr ((3 : Nat) : Int) 248 240 240 = 240 := rfl; omega)
end Go.Proofs.YtbgnfocfnjlabaaDoor
