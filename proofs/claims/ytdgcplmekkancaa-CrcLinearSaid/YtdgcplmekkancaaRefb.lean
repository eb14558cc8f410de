/-
  The document's own bits.
-/
import Derived.Test.YtdgcplmekkancaaBits
import Derived.Test.YtdgcplmekkancaaUpd
import Derived.Laws.AppendOwnNone
import Derived.OwnWalk
set_option linter.unusedVariables false
namespace Go.Proofs.Ytdgcplmekkancaa
open Go.RowKit

theorem wpList_append_src {P : Program} (w : World) {ops : Array Oper} {rest : List Oper} {o : Oper} {a : Act} {Q : Exit → Act → World → Prop} (hgd : o.guard = none) (s x : Operand) (t : TypeId)
    (ho : o.op = .call { callee := .builtin .append, args := #[s, x], argTypes := #[t, t] })
    (base : Nat) (e : TypeId) (i : TypeInfo) (z : Value) (size bytes : Nat) (ht : P.underlying t = some (.slice e)) (hi : P.info? e = some i) (hz : i.zero = some z)
    (hsize : i.size = size) (hby : i.bytes = bytes) (hzs : z.cells.size = size) (hsz : 0 < size)
    (v : Value) (n : Nat) (xs : List Value) (hs : a.eval s = v) (hown : w.ownsRow base e size v n xs)
    (A : Option Addr) (m c : Nat) (news : List Value) (hx : a.eval x = .slice A m c) (hnone : A = none → m = 0 ∧ c = 0) (hl : news.length = m * size) (hnews : ∀ ad, A = some ad → ∀ j u, news[j]? = some u → w.cell? (ad.add j) = some u) (h1 : ∀ u ∈ news, u.oneCell' = true)
    (h63 : n + m ≤ maxLen) (hbytes : (n + m) * bytes ≤ 140737488355328) (hbase : base ≤ w.heap.size)
    (h : ∀ v' w', w'.ownsRow base e size v' (n + m) (xs ++ news) → w.grownBy w' v.ownBlock → wpList P ops Q rest (a.put o.dst v') w') : wpList P ops Q (o :: rest) a w := by
  cases A with
  | some ad => exact wpList_append_own w hgd s x t ho base e i z size bytes ht hi hz hsize hby hzs hsz v n xs hs hown ad m c news hx hl (hnews ad rfl) h1 h63 hbytes hbase fun v' w' h2 h3 _ => h v' w' h2 h3
  | none =>
    obtain ⟨rfl, rfl⟩ := hnone rfl
    obtain rfl : news = [] := List.eq_nil_of_length_eq_zero (by simpa using hl)
    refine wpList_append_own_none hgd s x t ho base e i size ht hi v n xs hs hown hx ?_
    have h' := h v w (by simpa using hown) (World.grownBy.refl w _)
    exact h'

def bs (l : List Bool) : List Value := l.map .bool
theorem bs_length (l : List Bool) : (bs l).length = l.length := by simp [bs]
theorem bs_append (a b : List Bool) : bs (a ++ b) = bs a ++ bs b := by simp [bs]
theorem bs_one (l : List Bool) : ∀ v ∈ bs l, v.oneCell' = true := by
  intro v hv
  obtain ⟨b, _, rfl⟩ := List.mem_map.1 hv
  rfl
theorem bs_get (l : List Bool) (j : Nat) : (bs l)[j]? = l[j]?.map .bool := by simp [bs]
theorem info4 : (Try.prog.info? 4).map (fun i => (i.zero, i.size, i.bytes)) = some (some (.bool false), 1, 1) := by kernel_rfl

/-- A row of bools that is the call's own. -/
def Row (w0 wr : World) (v : Value) (L : List Bool) : Prop := wr.ownsRow w0.heap.size 4 1 v L.length (bs L) ∧ Only (w0.heap.size ≤ ·) w0 wr
theorem Row.grown {w0 wr w1 w' : World} {v v' : Value} {L M : List Bool} {n : Nat} (h : Row w0 wr v L) (ho : Only (w0.heap.size ≤ ·) wr w1) (h2 : w'.ownsRow w0.heap.size 4 1 v' n (bs L ++ bs M)) (hn : n = L.length + M.length) (h3 : w1.grownBy w' v.ownBlock) : Row w0 w' v' (L ++ M) := by
  refine ⟨?_, (h.2.trans ho).grown h3 (fun _ h => h) (fun g hg => (h.1.lt g hg).1)⟩
  rw [List.length_append, bs_append, ← hn]
  exact h2

theorem low_beq (z : Nat) : (((z : Int) % 2 == 1) : Bool) = decide (z % 2 = 1) := by
  rcases Nat.mod_two_eq_zero_or_one z with h | h
  · have : (z : Int) % 2 = 0 := by omega
    rw [this, h]; rfl
  · have : (z : Int) % 2 = 1 := by omega
    rw [this, h]; rfl
theorem one_cell (w : World) (t : TypeId) (v : Value) : ∀ j u, [v][j]? = some u → (w.alloc (.cells #[v] t)).cell? ((⟨w.heap.size, 0, none⟩ : Addr).add j) = some u := by
  intro j u hu
  rw [Addr.add_mid, Nat.zero_add, (Blk.new w t [v]).cell]
  exact hu

set_option maxRecDepth 100000 in
set_option maxHeartbeats 1600000 in
theorem bits_c (w : World) (A : Option Addr) (n c : Nat) (xs : Bytes) (ht : Txt w A n xs) (hn : n ≤ 65536) :
    Calls Try.prog 16 #[.slice A n c] w fun e w' => ∃ v, e = .returned v ∧ Row w w' v (bitsOf xs) := by
  obtain ⟨i0, hi0, hz0, hz1, hz2⟩ := info_parts info4
  have HI := Lib.hid (And.intro hi0 (And.intro hz0 (And.intro hz1 hz2)))
  clear hi0 hz0 hz1 hz2
  have HT := Lib.hid ht
  clear ht
  go_enter Try.func16, Try.ntmps16
  go_wp2
  go_loopw [4, 3] (fun i v wr => ∃ k : Nat, k ≤ n ∧ i = .int .i64 k ∧ Row w wr v (bitsOf (xs.take k))) (fun i _ _ => n - (intOf i).toNat)
  case atStart => exact ⟨0, Nat.zero_le _, rfl, World.ownsRow_nil _ _ _ _, Only.refl _ _⟩
  case round =>
    obtain ⟨k, hk, rfl, hrow⟩ := hrel
    have HR := Lib.hid hrow
    clear hrow
    by_cases hlt : k < n
    · have hkn : (k : Int) < (n : Int) := by omega
      have hT2 := HT.out.later HR.out.2
      obtain ⟨ad, rfl, hc⟩ := hT2.2 (by omega)
      have hlen := hT2.1
      obtain ⟨x, hx⟩ : ∃ x, xs[k]? = some x := ⟨_, List.getElem?_eq_getElem (by omega)⟩
      have hcx : wr.cell? (ad.add k) = some (.int .u8 (x.toNat : Nat)) := hc k _ (by simp [cb, hx])
      have hnx := Lib.hid (bitsOf_snoc xs k x hx)
      have hLl := Lib.hid (bitsOf_length (xs.take k))
      have hx8 := u8_lt x
      obtain ⟨y, hy⟩ : ∃ y, y = x.toNat := ⟨_, rfl⟩
      rw [← hy] at hcx hnx hx8
      obtain ⟨L', hL'⟩ : ∃ L', L' = bitsOf (xs.take (k + 1)) := ⟨_, rfl⟩
      rw [← hL'] at hnx
      have HL' := Lib.hid hL'
      obtain ⟨L, hL⟩ : ∃ L, L = bitsOf (xs.take k) := ⟨_, rfl⟩
      rw [← hL] at hnx HR hLl
      have hLk : L.length ≤ 8 * 65536 := by
        have := hLl.out
        rw [List.length_take] at this
        omega
      clear hy x hx hc hlen hL hL' hT2 hLl
      go_wp2
      go_loopw [6, 5, 3] (fun j m v wr' => ∃ t : Nat, t ≤ 8 ∧ j = .int .i64 t ∧ m = .int .i64 (y / 2 ^ t : Nat) ∧ Row w wr' v (L ++ byteBits t y)) (fun j _ _ _ => 8 - (intOf j).toNat)
      case atStart => exact ⟨0, by omega, rfl, by simp, by simpa [byteBits] using HR.out⟩
      case round =>
        clear HR
        obtain ⟨t, ht8, rfl, rfl, hrow⟩ := hrel
        have HR := Lib.hid hrow
        clear hrow
        by_cases htl : t < 8
        · have t1 : (t : Int) < 8 := by omega
          obtain ⟨z, hz⟩ : ∃ z, z = y / 2 ^ t := ⟨_, rfl⟩
          have HS := Lib.hid (byteBits_snoc t y)
          have hz2 : y / 2 ^ (t + 1) = z / 2 := by rw [hz, Nat.div_div_eq_div_mul, Nat.pow_succ]
          rw [← hz] at HS
          have HZ := Lib.hid hz2
          have zl : z < 256 := by rw [hz]; exact Nat.lt_of_le_of_lt (Nat.div_le_self _ _) hx8
          rw [← hz]
          have HL2 : Hid ((L ++ byteBits t y).length = L.length + t) := by show _ = _; rw [List.length_append, byteBits_length]
          clear hz hz2
          have HB2 : Hid (w.heap.size ≤ (wr.alloc (.cells #[.bool ((z : Int) % 2 == 1)] 4)).heap.size) := by
            have := HR.out.2.size
            show _ ≤ _
            simp
            omega
          go_wp2_with (at_builtin; refine wpList_append_own _ rfl (.tmp 22) (.tmp 26) 34 rfl w.heap.size 4 i0 _ 1 1 Try.underlying34 HI.out.1 HI.out.2.1 HI.out.2.2.1 HI.out.2.2.2 (by rfl) (by omega) _ _ _ rfl (HR.out.1.alloc _) ⟨wr.heap.size, 0, none⟩ 1 1 [.bool ((z : Int) % 2 == 1)] rfl (by rfl) (one_cell wr 4 _) (by simp [Value.oneCell']) (by have := HL2.out; simp only [maxLen]; omega) (by have := HL2.out; omega) HB2.out ?_; intro v' w' ho' hg' _)
          have HN : Hid (Row w w' v' (L ++ byteBits (t + 1) y)) := by
            rw [low_beq] at ho'
            show Row _ _ _ _
            rw [HS.out, ← List.append_assoc]
            exact HR.out.grown ((Only.refl _ wr).alloc (fun _ h => Nat.le_trans HR.out.2.size h) _) (M := [decide (z % 2 = 1)]) ho' (by simp) hg'
          refine ⟨⟨t + 1, by omega, by go_num, by rw [HZ.out]; simp, HN.out⟩, ?_⟩
          simp [intOf]
          omega
        · obtain rfl : t = 8 := by omega
          go_wp2
          rw [← hnx.out] at HR
          rw [HL'.out] at HR
          refine ⟨⟨k + 1, by omega, by go_num, HR.out⟩, ?_⟩
          simp [intOf]
          omega
    · obtain rfl : k = n := by omega
      have hkm : ¬ (k : Int) < (k : Int) := by omega
      have hlen := HT.out.1
      rw [List.take_of_length_le (by omega)] at HR
      go_wp2
      go_ret
      exact ⟨_, rfl, HR.out⟩
end Go.Proofs.Ytdgcplmekkancaa
