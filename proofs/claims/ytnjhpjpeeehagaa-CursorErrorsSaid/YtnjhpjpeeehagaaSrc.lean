/-
  A bytes value; append of a source that may be nil; bytes.Clone; bytes.Equal.
-/
import Derived.Test.YtnjhpjpeeehagaaTxt
import Derived.Laws.AppendOwnNone
import Derived.Laws.BytesArg
import Derived.OwnWalk
import Derived.WalkSpells
import Derived.IntWalk
set_option linter.unusedVariables false
namespace Go.Proofs.Ytnjhpjpeeehagaa
open Go.RowKit

/-- A slice value that holds these bytes. -/
def Src (w : World) (v : Value) (xs : Bytes) : Prop := ∃ A c, v = .slice A xs.length c ∧ Txt w A xs.length xs ∧ (A = none → c = 0) ∧ xs.length ≤ c ∧ c ≤ 9223372036854775807
theorem Src.later {w w' : World} {v : Value} {xs : Bytes} (h : Src w v xs) (ho : Only (w.heap.size ≤ ·) w w') : Src w' v xs := by
  obtain ⟨A, c, h1, h2, h3⟩ := h
  exact ⟨A, c, h1, h2.later ho, h3⟩
theorem Src.nil_ (w : World) : Src w (.slice none 0 0) [] := ⟨none, 0, rfl, Txt.nil_ _ _, fun _ => rfl, Nat.le_refl _, by omega⟩
theorem Src.own {w : World} {B n : Nat} {v : Value} {xs : Bytes} (h : w.ownsRow B 5 1 v n (cb xs)) : Src w v xs := by
  obtain ⟨A, c, h1, h2, h3, h4, h5, _⟩ := txt_of_own h
  obtain rfl : xs.length = n := h2.1
  exact ⟨A, c, h1, h2, fun e => (h3 e).2, h4, by simp only [maxLen] at h5; omega⟩

theorem wpList_append_src {P : Program} (w : World) {ops : Array Oper} {rest : List Oper} {o : Oper} {a : Act} {Q : Exit → Act → World → Prop} (hgd : o.guard = none) (s x : Operand) (t : TypeId)
    (ho : o.op = .call { callee := .builtin .append, args := #[s, x], argTypes := #[t, t] })
    (base : Nat) (e : TypeId) (i : TypeInfo) (z : Value) (size bytes : Nat) (ht : P.underlying t = some (.slice e)) (hi : P.info? e = some i) (hz : i.zero = some z)
    (hsize : i.size = size) (hby : i.bytes = bytes) (hzs : z.cells.size = size) (hsz : 0 < size)
    (v : Value) (n : Nat) (xs : List Value) (hs : a.eval s = v) (hown : w.ownsRow base e size v n xs)
    (A : Option Addr) (m c : Nat) (news : List Value) (hx : a.eval x = .slice A m c) (hnone : A = none → m = 0 ∧ c = 0) (hl : news.length = m * size) (hnews : ∀ ad, A = some ad → ∀ j u, news[j]? = some u → w.cell? (ad.add j) = some u) (h1 : ∀ u ∈ news, u.oneCell' = true)
    (h63 : n + m ≤ maxLen) (hbytes : (n + m) * bytes ≤ 140737488355328) (hbase : base ≤ w.heap.size)
    (h : ∀ v' w', w'.ownsRow base e size v' (n + m) (xs ++ news) → w.grownBy w' v.ownBlock → wpList P ops Q rest (a.put o.dst v') w') : wpList P ops Q (o :: rest) a w := by
  cases A with
  | some ad => exact wpList_append_own w hgd s x t ho base e i z size bytes ht hi hz hsize hby hzs hsz v n xs hs hown ad m c news hx hl (hnews ad rfl) h1 h63 hbytes hbase fun v' w' h2 h3 _ => h v' w' h2 h3
  | none =>
    obtain ⟨rfl, rfl⟩ := hnone rfl
    obtain rfl : news = [] := List.eq_nil_of_length_eq_zero (by simpa using hl)
    refine wpList_append_own_none hgd s x t ho base e i size ht hi v n xs hs hown hx ?_
    have h' := h v w (by simpa using hown) (World.grownBy.refl w _)
    exact h'

def z8 : Value := .int .u8 0
theorem info8 : (Try.prog.info? 5).map (fun i => (i.zero, i.size, i.bytes)) = some (some z8, 1, 1) := by kernel_rfl
theorem size8 : (Try.prog.info? 5).map (·.size) = some 1 := by kernel_rfl

set_option maxRecDepth 100000 in
set_option maxHeartbeats 800000 in
theorem Clone_c (w : World) (v : Value) (xs : Bytes) (h : Src w v xs) (hn : xs.length ≤ 140737488355328) :
    Calls Try.prog 34 #[v] w fun e w' => ∃ v', e = .returned v' ∧ w'.ownsRow w.heap.size 5 1 v' xs.length (cb xs) ∧ Only (w.heap.size ≤ ·) w w' := by
  obtain ⟨i0, hi0, hz0, hz1, hz2⟩ := info_parts info8
  have hnil := fun (W : World) (a : Option Addr) (n c : Nat) => Lib.run_eql_slice_nil (P := Try.prog) W 34 5 a n c 0 0 Try.underlying34
  obtain ⟨A, c, rfl, ht, hA, hc, hm⟩ := h
  obtain ⟨n, hne⟩ : ∃ n, n = xs.length := ⟨_, rfl⟩
  have Hl : Hid ((cb xs).length = n * 1) := by show _ = _; rw [cb_length, ← hne, Nat.mul_one]
  rw [← hne] at ht hc hn ⊢
  cases A with
  | none =>
    obtain rfl := hA rfl
    obtain rfl : n = 0 := by omega
    obtain rfl : xs = [] := List.eq_nil_of_length_eq_zero ht.1
    clear Hl hne ht
    go_enter Try.func34, Try.ntmps34
    go_wp2
    go_ret
    exact ⟨_, rfl, World.ownsRow_nil _ _ _ _, Only.refl _ _⟩
  | some ad =>
    have Ho : Hid (((w.alloc (.cells #[] 5)).drew.ownsRow w.heap.size 5 1 (.slice (some ⟨w.heap.size, 0, none⟩) 0 0) 0 []) ∧ (w.alloc (.cells #[] 5)).ownsRow w.heap.size 5 1 (.slice (some ⟨w.heap.size, 0, none⟩) 0 0) 0 []) := by
      have h := World.ownsRow_made (size := 1) (base := w.heap.size) (e := 5) w #[] 0 (Nat.le_refl _) (by simp [maxLen]) (by simp)
      exact ⟨h, h⟩
    have Hc : Hid (∀ j u, (cb xs)[j]? = some u → (w.alloc (.cells #[] 5)).cell? (ad.add j) = some u) := fun j u hu => (ht.later ((Only.refl _ w).alloc (fun _ h => h) _)).src ad rfl j u hu
    clear ht hA hne
    go_enter Try.func34, Try.ntmps34
    go_wp2_with (at_builtin; refine wpList_append_own _ rfl (.tmp 5) (.tmp 6) 34 rfl w.heap.size 5 i0 _ 1 1 Try.underlying34 hi0 hz0 hz1 hz2 (by rfl) (by omega) _ _ _ rfl Ho.out.2 ad n c (cb xs) rfl Hl.out Hc.out (cb_one _) (by simp only [maxLen]; omega) (by omega) (by simp) ?_; intro v' w' ho' hg' _)
    go_ret
    exact ⟨_, rfl, by simpa using ho', (((Only.refl _ w).alloc (fun _ h => h) _).grown hg' (fun _ h => h) (fun k hk => by injection hk with hk; exact Nat.le_of_eq hk))⟩

theorem foldl_push (l : Bytes) : ∀ s : ByteArray, (l.map fun b => (b.toNat : Int)).foldl (fun r n => r.push (UInt8.ofNat n.toNat)) s = ⟨s.data ++ l.toArray⟩ := by
  intro s
  rw [foldl_push_bytes, List.map_map]
  congr 2
  rw [show (fun n : Int => UInt8.ofNat n.toNat) ∘ (fun b : UInt8 => (b.toNat : Int)) = id from funext fun b => by simp]
  simp

theorem convert_txt (w : World) (A : Option Addr) (n c : Nat) (xs : Bytes) (h : Txt w A n xs) :
    (convert 34 9 (.slice A n c)).run Try.prog w = .ok (.string ⟨xs.toArray⟩) w := by
  rw [run_convert_bytes_string w 34 9 5 _ n c Try.underlying34 Try.underlying5 Try.underlying9]
  rcases Nat.eq_zero_or_pos n with h0 | h0
  · subst h0
    obtain rfl : xs = [] := List.eq_nil_of_length_eq_zero h.1
    cases A <;> simp [Conv.bytesToString, loadCells]
    all_goals rfl
  · obtain ⟨ad, rfl, hc⟩ := h.2 h0
    have hl : (loadCells ad n).run Try.prog w = .ok ((xs.map fun b => (b.toNat : Int)).map (Value.int .u8)).toArray w := by
      have := run_loadCells_list (P := Try.prog) w ad (cb xs) hc
      rw [cb_length, h.1] at this
      rw [this]
      simp [cb]
    rw [run_bytesToString w ad n c _ hl, foldl_push]
    simp [ByteArray.empty, ByteArray.emptyWithCapacity]
    rfl

end Go.Proofs.Ytnjhpjpeeehagaa
