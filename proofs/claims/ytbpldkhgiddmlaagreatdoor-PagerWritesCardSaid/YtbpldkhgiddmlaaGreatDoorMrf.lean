/-
  Metas, the document's: a row of bytes of the call's own that grows; its put.
-/
import Derived.Test.YtbpldkhgiddmlaaGreatDoorGv
import Derived.Maps.AppendAt
set_option linter.unusedVariables false
namespace Go.Proofs.YtbpldkhgiddmlaaGreatDoor
open Go.RowKit

section
variable {P : Program} {w : World}
theorem wp_append_at {o : Oper} {a : Act} {K : Act → World → Prop} {Q : Exit → Act → World → Prop} (s x : Operand) (t : TypeId)
    (ho : o.op = .call { callee := .builtin .append, args := #[s, x], argTypes := #[t, t] })
    (base : Nat) (e : TypeId) (i : TypeInfo) (z : Value) (size bytes : Nat) (ht : P.underlying t = some (.slice e)) (hi : P.info? e = some i) (hz : i.zero = some z)
    (hsize : i.size = size) (hby : i.bytes = bytes) (hzs : z.cells.size = size) (hsz : 0 < size)
    (v : Value) (n : Nat) (xs : List Value) (hs : a.eval s = v) (hown : w.ownsRow base e size v n xs)
    (ad : Addr) (m c : Nat) (news : List Value) (hx : a.eval x = .slice (some ad) m c) (hl : news.length = m * size) (hnews : ∀ j u, news[j]? = some u → w.cell? (ad.add j) = some u) (h1 : ∀ u ∈ news, u.oneCell' = true)
    (h63 : n + m ≤ maxLen) (hbytes : (n + m) * bytes ≤ 140737488355328) (hbase : base ≤ w.heap.size)
    (h : ∀ v' w', w'.ownsRow base e size v' (n + m) (xs ++ news) → w.grownBy w' v.ownBlock → (v'.ownBlock = v.ownBlock ∨ v'.ownBlock = some w.heap.size) → K (a.put o.dst v') w') : o.wp P a w K Q := by
  obtain ⟨v', w', hr, h2, h3, h4, h5⟩ := run_append_own_at (P := P) w base t o.type e i z size bytes ht hi hz hsize hby hzs hsz v n xs hown ad m c news hl hnews h1 h63 hbytes hbase
  unfold Oper.wp execOp
  simp only [ho, resolve, invoke, builtin, Sem.run_bind, Sem.run_pure, Result.andThen_ok, List.map_toArray, List.map_cons, List.map_nil, hs, hx, hr]
  exact h v' w' h2 h3 h5
end
theorem own_lit (w : World) (B : Nat) (xs : Bytes) (hB : B ≤ w.heap.size) (hm : xs.length ≤ 1000) : (w.alloc (.cells (cb xs).toArray 5)).ownsRow B 5 1 (.slice (some ⟨w.heap.size, 0, none⟩) xs.length xs.length) xs.length (cb xs) :=
  ⟨by rw [cb_length, Nat.mul_one], .inr ⟨w.heap.size, xs.length, (cb xs).toArray, rfl, hB, heap_alloc_new w _, Nat.le_refl _, by simp only [maxLen]; omega, by simp [cb_length], by rw [Nat.mul_one, ← cb_length xs]; simp⟩⟩
/-- The bytes stand in a row of the call's own (from block B on), which lies in blocks of which F speaks; nothing else has changed. -/
def OwnF (F : Nat → Prop) (B : Nat) (w0 wr : World) (v : Value) (xs : Bytes) : Prop := wr.ownsRow B 5 1 v xs.length (cb xs) ∧ (∀ k, v.ownBlock = some k → F k) ∧ Only F w0 wr ∧ B ≤ wr.heap.size ∧ (∀ k, w0.heap.size ≤ k → F k)
section
variable {F : Nat → Prop} {B : Nat} {w0 wr w w' : World} {v v' : Value} {xs ys : Bytes}
theorem OwnF.src (h : OwnF F B w0 wr v xs) : Src wr v xs := Src.own h.1
theorem OwnF.new (h : OwnF F B w0 wr v xs) : ∀ k, wr.heap.size ≤ k → F k := fun k hk => h.2.2.2.2 k (Nat.le_trans h.2.2.1.size hk)
theorem OwnF.alloc (h : OwnF F B w0 wr v xs) (b : Obj) : OwnF F B w0 (wr.alloc b) v xs :=
  ⟨h.1.alloc b, h.2.1, h.2.2.1.alloc h.2.2.2.2 b, Nat.le_trans h.2.2.2.1 ((Only.refl (wr.heap.size ≤ ·) wr).alloc (fun _ h => h) b).size, h.2.2.2.2⟩
theorem OwnF.drew (h : OwnF F B w0 wr v xs) : OwnF F B w0 wr.drew v xs := ⟨h.1, h.2.1, h.2.2.1.drew, h.2.2.2.1, h.2.2.2.2⟩
theorem OwnF.raw (h : OwnF F B w0 wr v xs) : ∃ A c, v = .slice A xs.length c := by
  obtain ⟨A, c, e, _⟩ := raw_of_own h.1
  exact ⟨A, c, e⟩
/-- What an append leaves. -/
theorem OwnF.grown (h : OwnF F B w0 wr v xs) (h1 : w'.ownsRow B 5 1 v' (xs.length + ys.length) (cb xs ++ cb ys)) (h2 : wr.grownBy w' v.ownBlock) (h3 : v'.ownBlock = v.ownBlock ∨ v'.ownBlock = some wr.heap.size) : OwnF F B w0 w' v' (xs ++ ys) := by
  refine ⟨by rw [List.length_append, cb_append]; exact h1, fun k hk => ?_, h.2.2.1.grown h2 h.2.2.2.2 h.2.1, Nat.le_trans h.2.2.2.1 h2.size, h.2.2.2.2⟩
  rcases h3 with h3 | h3
  · exact h.2.1 k (by rw [← h3]; exact hk)
  · rw [h3] at hk
    cases hk
    exact h.new _ (Nat.le_refl _)
theorem wp_append_f {o : Oper} {a : Act} {K : Act → World → Prop} {Q : Exit → Act → World → Prop} (s x : Operand)
    (ho : o.op = .call { callee := .builtin .append, args := #[s, x], argTypes := #[22, 22] })
    (v u : Value) (hs : a.eval s = v) (h : OwnF F B w0 w v xs) (hx : a.eval x = u) (hy : Src w u ys) (hl : xs.length + ys.length ≤ 65536)
    (hK : ∀ v' w', OwnF F B w0 w' v' (xs ++ ys) → K (a.put o.dst v') w') : o.wp Tryz.prog a w K Q := by
  obtain ⟨i0, hi0, hz0, hz1, hz2⟩ := info_parts info8
  obtain ⟨A, c, rfl, ht, hA, hc, hm⟩ := hy
  cases A with
  | some ad =>
    exact wp_append_at s x 22 ho B 5 i0 _ 1 1 Tryz.underlying22 hi0 hz0 hz1 hz2 (by rfl) (by omega) v xs.length (cb xs) hs h.1 ad ys.length c (cb ys) hx (by rw [cb_length, Nat.mul_one]) (fun j y hy => ht.src ad rfl j y hy) (cb_one _) (by simp only [maxLen]; omega) (by omega) h.2.2.2.1 fun v' w' h1 h2 h3 => hK v' w' (h.grown h1 h2 h3)
  | none =>
    have hy0 : ys.length = 0 := by
      rcases Nat.eq_zero_or_pos ys.length with h0 | h0
      · exact h0
      · obtain ⟨ad, ea, _⟩ := ht.2 h0
        cases ea
    obtain rfl : ys = [] := List.eq_nil_of_length_eq_zero hy0
    obtain rfl := hA rfl
    have hrun := run_append_owned_none (P := Tryz.prog) (w := w) B 22 o.type 5 i0 1 Tryz.underlying22 hi0 v xs.length (cb xs) h.1
    have h' := hK v w (by rw [List.append_nil]; exact h)
    unfold Oper.wp
    simp [execOp, ho, resolve, invoke, builtin, hs, hx, hrun, Result.andThen]
    exact h'
/-- The same, at the head of a list. -/
theorem wpList_append_f {ops : Array Oper} {rest : List Oper} {o : Oper} {a : Act} {Q : Exit → Act → World → Prop} (hg : o.guard = none) (s x : Operand)
    (ho : o.op = .call { callee := .builtin .append, args := #[s, x], argTypes := #[22, 22] })
    (v u : Value) (hs : a.eval s = v) (h : OwnF F B w0 w v xs) (hx : a.eval x = u) (hy : Src w u ys) (hl : xs.length + ys.length ≤ 65536)
    (hK : ∀ v' w', OwnF F B w0 w' v' (xs ++ ys) → wpList Tryz.prog ops Q rest (a.put o.dst v') w') : wpList Tryz.prog ops Q (o :: rest) a w :=
  wpList_plain hg fun _ hk => wp_append_f s x ho v u hs h hx hy hl fun v' w' h1 => hk _ _ (hK v' w' h1)
/-- One byte, fresh. -/
theorem src_one (w : World) (y : Int) (b : UInt8) (hy : y = (b.toNat : Int)) : Src (w.alloc (.cells #[.int .u8 y] 5)) (.slice (some ⟨w.heap.size, 0, none⟩) 1 1) [b] := by
  have h := own_lit w w.heap.size [b] (Nat.le_refl _) (by simp)
  rw [show (cb [b]).toArray = #[.int .u8 y] from by rw [hy]; rfl] at h
  exact Src.own h
end
set_option maxRecDepth 100000 in
theorem rmput_f (F : Nat → Prop) (w0 w : World) (B : Nat) (v : Value) (xs : Bytes) (a k : Nat) (h : OwnF F B w0 w v xs) (hl : xs.length + k ≤ 65536) (ha : a < 9223372036854775808) :
    Calls Tryz.prog 68 #[v, .int .i64 a, .int .i64 k] w fun e w' => ∃ v', e = .returned v' ∧ OwnF F B w0 w' v' (xs ++ le a k) := by
  have H0 : Hid (OwnF F B w0 w v (xs ++ le a 0)) := Lib.hid (by simpa [le] using h)
  obtain ⟨N, hN⟩ : ∃ N, N = xs.length := ⟨_, rfl⟩
  rw [← hN] at hl
  have HN := Lib.hid hN
  clear h hN
  go_enter Tryz.func68, Tryz.ntmps68
  go_wp2
  go_loopw [0, 1, 7] (fun bv nv i wr => ∃ t : Nat, t ≤ k ∧ i = .int .i64 t ∧ nv = .int .i64 (a / 256 ^ t : Nat) ∧ Hid (OwnF F B w0 wr bv (xs ++ le a t))) (fun _ _ i _ => k - (intOf i).toNat)
  case atStart => exact ⟨0, Nat.zero_le _, rfl, by simp, H0⟩
  case round =>
    clear H0
    obtain ⟨t, ht, rfl, rfl, HR⟩ := hrel
    by_cases hlt : t < k
    · have hti : (t : Int) < (k : Int) := by omega
      obtain ⟨z, hz⟩ : ∃ z, z = a / 256 ^ t := ⟨_, rfl⟩
      have HS := Lib.hid (le_snoc a t)
      have hz2 : a / 256 ^ (t + 1) = z / 256 := by rw [hz, Nat.div_div_eq_div_mul, Nat.pow_succ]
      rw [← hz] at HS
      have HZ := Lib.hid hz2
      have zl : z < 9223372036854775808 := by rw [hz]; exact Nat.lt_of_le_of_lt (Nat.div_le_self _ _) ha
      rw [← hz]
      clear hz hz2
      have hw1 : IntKind.u8.wrap ((z : Int) % 256) = ((z % 256 : Nat) : Int) := by unfold IntKind.wrap; simp [IntKind.signed, IntKind.bits]
      have HLN : Hid ((xs ++ le a t).length + [UInt8.ofNat (z % 256)].length ≤ 65536) := Lib.hid (by rw [List.length_append, le_length, ← HN.out]; simp; omega)
      go_wp2_with (at_builtin; refine wpList_append_f rfl (.tmp 13) (.tmp 17) rfl _ _ rfl (HR.out.alloc _) rfl (src_one wr _ (UInt8.ofNat (z % 256)) (by simp)) HLN.out ?_; intro v' w' ho'; have HX := Lib.hid ho'; clear ho')
      go_wp2
      go_roundw
      case rel => exact ⟨t + 1, by omega, by go_num, by rw [HZ.out]; simp, by rw [HS.out, ← List.append_assoc]; exact HX⟩
      case measure => (simp [intOf] <;> omega)
    · obtain rfl : t = k := by omega
      have hkk : ¬ (t : Int) < (t : Int) := by omega
      go_wp2
      go_ret
      exact ⟨_, rfl, HR.out⟩
end Go.Proofs.YtbpldkhgiddmlaaGreatDoor
