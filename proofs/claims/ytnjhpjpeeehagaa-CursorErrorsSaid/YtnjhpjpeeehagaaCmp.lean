/-
  How two keys stand: bytes.Compare, item.Compare, and the document's.
-/
import Derived.Test.YtnjhpjpeeehagaaSrc
import Derived.Test.YtnjhpjpeeehagaaSmal
import Derived.Lib.Bytealg
import Derived.Laws.Externs
import Derived.Deep.QuietTactic
import Derived.BigQuiet
import Derived.Deep.LoopGhost
set_option linter.unusedVariables false
namespace Go.Proofs.Ytnjhpjpeeehagaa
open Go.RowKit

abbrev cmp := Go.Lib.compareBytes
theorem cmp_self : ∀ a : Bytes, cmp a a = 0
  | [] => rfl
  | x :: a => by
    show (if x < x then -1 else if x < x then 1 else cmp a a) = 0
    rw [if_neg (UInt8.lt_irrefl x), if_neg (UInt8.lt_irrefl x)]
    exact cmp_self a
theorem cmp_eq_zero : ∀ {a b : Bytes}, cmp a b = 0 → a = b
  | [], [], _ => rfl
  | [], _ :: _, h => by cases h
  | _ :: _, [], h => by cases h
  | x :: a, y :: b, h => by
    have h' : (if x < y then -1 else if y < x then 1 else cmp a b) = 0 := h
    by_cases h1 : x < y
    · rw [if_pos h1] at h'; cases h'
    · rw [if_neg h1] at h'
      by_cases h2 : y < x
      · rw [if_pos h2] at h'; cases h'
      · rw [if_neg h2] at h'
        rw [cmp_eq_zero h', UInt8.le_antisymm (UInt8.not_lt.1 h2) (UInt8.not_lt.1 h1)]
theorem cmp_zero (a b : Bytes) : cmp a b = 0 ↔ a = b := ⟨cmp_eq_zero, fun h => by rw [h]; exact cmp_self b⟩
theorem cmp_flip : ∀ a b : Bytes, cmp b a = - cmp a b
  | [], [] => rfl
  | [], _ :: _ => rfl
  | _ :: _, [] => rfl
  | x :: a, y :: b => by
    show (if y < x then -1 else if x < y then 1 else cmp b a) = - (if x < y then -1 else if y < x then 1 else cmp a b)
    rw [cmp_flip a b]
    by_cases h1 : x < y
    · have h2 : ¬ y < x := fun h => UInt8.lt_irrefl x (UInt8.lt_trans h1 h)
      rw [if_neg h2, if_pos h1, if_pos h1]; rfl
    · rw [if_neg h1, if_neg h1]
      by_cases h2 : y < x
      · rw [if_pos h2, if_pos h2]
      · rw [if_neg h2, if_neg h2]
theorem cmp_range : ∀ a b : Bytes, cmp a b = -1 ∨ cmp a b = 0 ∨ cmp a b = 1
  | [], [] => .inr (.inl rfl)
  | [], _ :: _ => .inl rfl
  | _ :: _, [] => .inr (.inr rfl)
  | x :: a, y :: b => by
    show (if x < y then -1 else if y < x then 1 else cmp a b) = -1 ∨ (if x < y then -1 else if y < x then 1 else cmp a b) = 0 ∨ (if x < y then -1 else if y < x then 1 else cmp a b) = 1
    split
    · exact .inl rfl
    · split
      · exact .inr (.inr rfl)
      · exact cmp_range a b
theorem cmp_trans : ∀ a b c : Bytes, cmp a b ≤ 0 → cmp b c ≤ 0 → cmp a c ≤ 0
  | [], _, [], _, _ => by decide
  | [], _, _ :: _, _, _ => by show (-1 : Int) ≤ 0; decide
  | _ :: _, [], _, h, _ => absurd (show (1 : Int) ≤ 0 from h) (by decide)
  | _ :: _, _ :: _, [], _, h => absurd (show (1 : Int) ≤ 0 from h) (by decide)
  | x :: a, y :: b, z :: c, h, k => by
    have h' : (if x < y then -1 else if y < x then 1 else cmp a b) ≤ 0 := h
    have k' : (if y < z then -1 else if z < y then 1 else cmp b c) ≤ 0 := k
    show (if x < z then -1 else if z < x then 1 else cmp a c) ≤ 0
    have hyx : ¬ y < x := fun e => by
      have hn : ¬ x < y := fun e' => UInt8.lt_irrefl x (UInt8.lt_trans e' e)
      rw [if_neg hn, if_pos e] at h'
      exact absurd h' (by decide)
    have hzy : ¬ z < y := fun e => by
      have hn : ¬ y < z := fun e' => UInt8.lt_irrefl y (UInt8.lt_trans e' e)
      rw [if_neg hn, if_pos e] at k'
      exact absurd k' (by decide)
    have hxz : x ≤ z := UInt8.le_trans (UInt8.not_lt.1 hyx) (UInt8.not_lt.1 hzy)
    by_cases h1 : x < z
    · rw [if_pos h1]; decide
    · rw [if_neg h1, if_neg (UInt8.not_lt.2 hxz)]
      have exz : x = z := UInt8.le_antisymm hxz (UInt8.not_lt.1 h1)
      subst exz
      have exy : x = y := UInt8.le_antisymm (UInt8.not_lt.1 hyx) (UInt8.not_lt.1 hzy)
      subst exy
      rw [if_neg h1, if_neg h1] at h' k'
      exact cmp_trans a b c h' k'

theorem drop_cons {l : Bytes} {k : Nat} {x : UInt8} (h : l[k]? = some x) : l.drop k = x :: l.drop (k + 1) := by
  obtain ⟨hk, e⟩ := List.getElem?_eq_some_iff.1 h
  rw [List.drop_eq_getElem_cons hk, e]
theorem cmp_step {xs ys : Bytes} {k : Nat} {x y : UInt8} (hx : xs[k]? = some x) (hy : ys[k]? = some y) :
    cmp (xs.drop k) (ys.drop k) = if x < y then -1 else if y < x then 1 else cmp (xs.drop (k + 1)) (ys.drop (k + 1)) := by
  rw [drop_cons hx, drop_cons hy]; rfl
theorem cmp_end {xs ys : Bytes} {k : Nat} (h1 : k ≤ xs.length) (h2 : k ≤ ys.length) (h : k = xs.length ∨ k = ys.length) :
    cmp (xs.drop k) (ys.drop k) = if xs.length < ys.length then -1 else if ys.length < xs.length then 1 else 0 := by
  rcases h with rfl | rfl
  · rw [List.drop_length]
    by_cases e : xs.length < ys.length
    · rw [if_pos e, drop_cons (List.getElem?_eq_getElem e)]; rfl
    · rw [if_neg e, if_neg (by omega), List.drop_eq_nil_of_le (by omega)]; rfl
  · rw [List.drop_length]
    by_cases e : ys.length < xs.length
    · rw [if_neg (by omega), if_pos e, drop_cons (List.getElem?_eq_getElem e)]; rfl
    · rw [if_neg (by omega), if_neg e, List.drop_eq_nil_of_le (by omega)]; rfl

theorem run_loadB {P : Program} {w : World} : ∀ (xs : Bytes) (a : Addr) (acc : ByteArray), (∀ j u, (cb xs)[j]? = some u → w.cell? (a.add j) = some u) →
    (Extern.Bytes.loadBytes a xs.length acc).run P w = .ok ⟨acc.data ++ xs.toArray⟩ w
  | [], a, acc, _ => by simp [Extern.Bytes.loadBytes]
  | x :: l, a, acc, h => by
    have h0 : w.cell? a = some (.int .u8 (x.toNat : Nat)) := by
      have := h 0 _ rfl
      simpa [Addr.add] using this
    have ih := run_loadB (P := P) l (a.add 1) (acc.push x) (fun j y hy => by
      have := h (j + 1) y (by simpa [cb] using hy)
      have e : (a.add 1).add j = a.add (j + 1) := by rw [add_add, Nat.add_comm]
      rw [e]; exact this)
    simp only [List.length_cons, Extern.Bytes.loadBytes, Sem.run_bind, run_load, h0, Result.andThen]
    rw [show ((x.toNat : Nat) : Int).toNat.toUInt8 = x by simp, ih]
    congr 1
    apply ByteArray.ext
    simp [ByteArray.push]
theorem run_bytesOf {P : Program} {w : World} {v : Value} {xs : Bytes} (h : Src w v xs) : (Extern.Bytes.bytesOf v).run P w = .ok ⟨xs.toArray⟩ w := by
  obtain ⟨A, c, rfl, ht, hA, hc, hm⟩ := h
  cases A with
  | none =>
    obtain rfl := hA rfl
    obtain rfl : xs = [] := List.eq_nil_of_length_eq_zero (by omega)
    rfl
  | some ad =>
    show (Extern.Bytes.loadBytes ad xs.length .empty).run P w = _
    rw [run_loadB xs ad .empty (ht.src ad rfl)]
    congr 1
    apply ByteArray.ext
    show (#[] : Array UInt8) ++ xs.toArray = xs.toArray
    simp
theorem run_compare {P : Program} {w : World} {v u : Value} {xs ys : Bytes} (h : Src w v xs) (h' : Src w u ys) :
    (Extern.BytealgCompare.compare #[v, u]).run P w = .ok (.int .i64 (cmp xs ys)) w := by
  change Sem.run P (do pure (goInt (Extern.BytealgCompare.cmp (← Extern.Bytes.bytesOf v) (← Extern.Bytes.bytesOf u)))) w = _
  simp only [Sem.run_bind, Sem.run_pure, run_bytesOf h, run_bytesOf h', Result.andThen]
  rw [Go.Lib.cmp_eq]
  rfl
theorem aCompare_run {w : World} {v u : Value} {xs ys : Bytes} (h : Src w v xs) (h' : Src w u ys) :
    (callFunc 47 #[v, u]).run Try.prog w = .ok (.value (.int .i64 (cmp xs ys))) w := by
  rw [run_callFunc_extern Try.func47 (by kernel_rfl) (by kernel_rfl) (by kernel_rfl) (e := Extern.BytealgCompare.compare) (by kernel_rfl), run_compare h h']
  rfl

theorem bCompare_c (w : World) (v u : Value) (xs ys : Bytes) (h : Src w v xs) (h' : Src w u ys) :
    Calls Try.prog 36 #[v, u] w fun e w' => e = .returned (.int .i64 (cmp xs ys)) ∧ w = w' := by
  have hrun := aCompare_run h h'
  clear h h'
  go_enter Try.func36, Try.ntmps36
  go_wp2
  go_ret
  exact ⟨rfl, rfl⟩
theorem Compare_c (w : World) (v u : Value) (xs ys : Bytes) (h : Src w v xs) (h' : Src w u ys) :
    Calls Try.prog 23 #[v, u] w fun e w' => e = .returned (.int .i64 (cmp xs ys)) ∧ w = w' := by
  have HC := Lib.hid (bCompare_c w v u xs ys h h')
  clear h h'
  go_enter Try.func23, Try.ntmps23
  go_wp2_with (go_at_call 36; refine HC.out.mono ?_; rintro e w' ⟨rfl, rfl⟩)
  go_ret
  exact ⟨rfl, rfl⟩

set_option maxRecDepth 100000 in
set_option maxHeartbeats 3200000 in
theorem rCompare_c (w : World) (v u : Value) (xs ys : Bytes) (h : Src w v xs) (h' : Src w u ys) :
    Calls Try.prog 29 #[v, u] w (Told w (.int .i64 (cmp xs ys))) := by
  obtain ⟨A, c, rfl, ht, _, hc, hm⟩ := h
  obtain ⟨B, d, rfl, ht', _, hc', hm'⟩ := h'
  obtain ⟨n, hn⟩ : ∃ n, n = xs.length := ⟨_, rfl⟩
  obtain ⟨m, hmm⟩ : ∃ m, m = ys.length := ⟨_, rfl⟩
  rw [← hn] at ht hc ⊢
  rw [← hmm] at ht' hc' ⊢
  have HT := Lib.hid ht
  have HT' := Lib.hid ht'
  have HN := Lib.hid hn
  have HM := Lib.hid hmm
  obtain ⟨q, hq⟩ : ∃ q, q = cmp xs ys := ⟨_, rfl⟩
  rw [← hq]
  have HQ : Hid (q = cmp (xs.drop 0) (ys.drop 0)) := hq
  clear ht ht' hn hmm hq
  go_enter Try.func29, Try.ntmps29
  go_wp2
  go_loopw [5] (fun i wr => ∃ (k : Nat), k ≤ n ∧ k ≤ m ∧ i = .int .i64 k ∧ Hid (q = cmp (xs.drop k) (ys.drop k)) ∧ Only (w.heap.size ≤ ·) w wr) (fun i _ => n - (intOf i).toNat)
  case atStart => exact ⟨0, Nat.zero_le _, Nat.zero_le _, rfl, HQ, Only.refl _ _⟩
  case round =>
    obtain ⟨k, hk, hk', rfl, HK, ho⟩ := hrel
    have HO := Lib.hid ho
    clear ho HQ
    by_cases hlt : k < n
    · by_cases hlt' : k < m
      · obtain ⟨ad, x, rfl, hx, hcx⟩ := (HT.out.later HO.out).at_ hlt
        obtain ⟨bd, y, rfl, hy, hcy⟩ := (HT'.out.later HO.out).at_ hlt'
        have HS := Lib.hid (cmp_step hx hy)
        clear hx hy
        have j1 : (k : Int) < (n : Int) := by omega
        have j2 : (k : Int) < (m : Int) := by omega
        have j3 : (0 : Int) ≤ (k : Int) := by omega
        obtain ⟨X, hX⟩ : ∃ X : Int, X = (x.toNat : Nat) := ⟨_, rfl⟩
        obtain ⟨Y, hY⟩ : ∃ Y : Int, Y = (y.toNat : Nat) := ⟨_, rfl⟩
        have HXY : Hid ((x < y ↔ X < Y) ∧ (y < x ↔ Y < X)) := by
          rw [hX, hY]
          exact ⟨⟨fun h => by have := UInt8.lt_iff_toNat_lt.1 h; omega, fun h => UInt8.lt_iff_toNat_lt.2 (by omega)⟩, ⟨fun h => by have := UInt8.lt_iff_toNat_lt.1 h; omega, fun h => UInt8.lt_iff_toNat_lt.2 (by omega)⟩⟩
        rw [← hX] at hcx
        rw [← hY] at hcy
        clear hX hY
        by_cases h1 : X < Y
        · obtain rfl : q = -1 := by rw [HK.out, HS.out, if_pos (HXY.out.1.2 h1)]
          have z1 : decide (X < Y) = true := decide_eq_true h1
          go_wp2_with (fail)
          go_quiet (fail)
          go_wp2
          go_ret
          exact ⟨rfl, HO.out.drewN _⟩
        · have z1 : decide (X < Y) = false := decide_eq_false h1
          by_cases h2 : Y < X
          · obtain rfl : q = 1 := by rw [HK.out, HS.out, if_neg (fun h => h1 (HXY.out.1.1 h)), if_pos (HXY.out.2.2 h2)]
            have z2 : decide (Y < X) = true := decide_eq_true h2
            go_wp2_with (fail)
            go_quiet (fail)
            go_wp2_with (fail)
            go_quiet (fail)
            go_wp2
            go_ret
            first | exact ⟨rfl, HO.out.drewN _⟩ | exact ⟨rfl, (HO.out.drewN _).drewN _⟩
          · have z2 : decide (Y < X) = false := decide_eq_false h2
            have HN' : Hid (q = cmp (xs.drop (k + 1)) (ys.drop (k + 1))) := by show _ = _; rw [HK.out, HS.out, if_neg (fun h => h1 (HXY.out.1.1 h)), if_neg (fun h => h2 (HXY.out.2.1 h))]
            go_wp2_with (fail)
            go_quiet (fail)
            go_wp2_with (fail)
            go_quiet (fail)
            go_wp2
            go_roundw
            case rel => exact ⟨k + 1, by omega, by omega, by go_num, HN', HO.out.drewN _⟩
            case measure => simp [intOf]; omega
      · obtain rfl : k = m := by omega
        have HE : Hid (q = if n < k then -1 else if k < n then 1 else 0) := by
          show _ = _
          rw [HK.out, cmp_end (by rw [← HN.out]; exact hk) (by rw [← HM.out]; exact hk') (.inr HM.out), ← HN.out, ← HM.out]
        have j1 : (k : Int) < (n : Int) := by omega
        have j2 : ¬ (k : Int) < (k : Int) := by omega
        have j3 : ¬ (n : Int) < (k : Int) := by omega
        obtain rfl : q = 1 := by rw [HE.out, if_neg (by omega), if_pos hlt]
        go_wp2
        go_ret
        exact ⟨rfl, HO.out⟩
    · obtain rfl : k = n := by omega
      have HE : Hid (q = if k < m then -1 else if m < k then 1 else 0) := by
        show _ = _
        rw [HK.out, cmp_end (by rw [← HN.out]; exact hk) (by rw [← HM.out]; exact hk') (.inl HN.out), ← HN.out, ← HM.out]
      have j2 : ¬ (k : Int) < (k : Int) := by omega
      by_cases h1 : k < m
      · have j1 : (k : Int) < (m : Int) := by omega
        obtain rfl : q = -1 := by rw [HE.out, if_pos h1]
        go_wp2
        go_ret
        exact ⟨rfl, HO.out⟩
      · have j1 : ¬ (k : Int) < (m : Int) := by omega
        have j3 : ¬ (m : Int) < (k : Int) := by omega
        obtain rfl : q = 0 := by rw [HE.out, if_neg h1, if_neg (by omega)]
        go_wp2
        go_ret
        exact ⟨rfl, HO.out⟩
end Go.Proofs.Ytnjhpjpeeehagaa
