/-
  Several texts, as one.
-/
import Derived.Test.YtbpldkhgiddmlaaGreatDoorGa
import Derived.Deep.RegionHeld3
import Derived.Laws.CopyOwn
import Derived.Laws.MakeOwn
import Derived.Deep.RegionLaw
import Derived.Deep.LoopGhost
import Derived.Outline
import Derived.IntWalk
import Derived.Laws.BitsAllLaws
import Derived.Laws.AppendOwnNone
import Derived.OwnWalk
import Derived.Deep.AppendLies
import Derived.Deep.DrawnRows
import Derived.Laws.Small
import Derived.Laws.StructEq
import Derived.Laws.BytesArg
import Derived.Laws.Cover3
import Derived.Deep.QuietTactic
import Derived.BigQuiet
/-
  The sum as plain numbers: a step for a bit, steps for a byte, the sum of a row of bytes; what is linear in it.
-/
set_option linter.unusedVariables false
namespace Go.Proofs.YtbpldkhgiddmlaaGreatDoor

def bstep (c : Nat) : Nat := (c / 2) ^^^ (c % 2 * 2197175160)
def bsteps : Nat → Nat → Nat
  | 0, c => c
  | k + 1, c => bsteps k (bstep c)
def tab (n : Nat) : Nat := bsteps 4 n
def step4 (c : Nat) : Nat := (c / 16) ^^^ tab (c % 16)
def bytestep (c : Nat) (x : Nat) : Nat := step4 (step4 (c ^^^ x))
def M32 : Nat := 4294967295

theorem bsteps_succ (k c : Nat) : bsteps (k + 1) c = bstep (bsteps k c) := by
  induction k generalizing c with
  | zero => rfl
  | succ k ih => exact ih (bstep c)
theorem bsteps_add (k j c : Nat) : bsteps (k + j) c = bsteps j (bsteps k c) := by
  induction k generalizing c with
  | zero => rw [Nat.zero_add]; rfl
  | succ k ih => rw [Nat.add_right_comm]; exact ih (bstep c)

theorem xor_half (a b : Nat) : (a ^^^ b) / 2 = a / 2 ^^^ b / 2 := by
  have := Nat.shiftRight_xor_distrib (a := a) (b := b) (i := 1)
  simpa [Nat.shiftRight_eq_div_pow] using this
theorem xor_low (a b : Nat) : (a ^^^ b) % 2 = (a % 2 + b % 2) % 2 := by
  have h := Nat.testBit_xor a b 0
  simp only [Nat.testBit_zero] at h
  rcases Nat.mod_two_eq_zero_or_one a with ha | ha <;> rcases Nat.mod_two_eq_zero_or_one b with hb | hb <;> rcases Nat.mod_two_eq_zero_or_one (a ^^^ b) with hc | hc <;> simp [ha, hb, hc] at h ⊢
theorem low_mul (a b p : Nat) : (a ^^^ b) % 2 * p = (a % 2 * p) ^^^ (b % 2 * p) := by
  rw [xor_low]
  rcases Nat.mod_two_eq_zero_or_one a with ha | ha <;> rcases Nat.mod_two_eq_zero_or_one b with hb | hb <;> simp [ha, hb]
theorem xor_swap (a b c d : Nat) : (a ^^^ b) ^^^ (c ^^^ d) = (a ^^^ c) ^^^ (b ^^^ d) := by
  rw [Nat.xor_assoc, Nat.xor_assoc, ← Nat.xor_assoc b c d, Nat.xor_comm b c, Nat.xor_assoc]
theorem bstep_xor (a b : Nat) : bstep (a ^^^ b) = bstep a ^^^ bstep b := by
  unfold bstep
  rw [xor_half, low_mul, xor_swap]
theorem bsteps_xor (k a b : Nat) : bsteps k (a ^^^ b) = bsteps k a ^^^ bsteps k b := by
  induction k generalizing a b with
  | zero => rfl
  | succ k ih => show bsteps k (bstep _) = _; rw [bstep_xor]; exact ih _ _
theorem bstep_two (y : Nat) : bstep (2 * y) = y := by
  unfold bstep
  rw [Nat.mul_div_cancel_left _ (by omega), Nat.mul_mod_right, Nat.zero_mul, Nat.xor_zero]
theorem bsteps_pow (k y : Nat) : bsteps k (2 ^ k * y) = y := by
  induction k generalizing y with
  | zero => show 2 ^ 0 * y = y; omega
  | succ k ih =>
    show bsteps k (bstep _) = _
    rw [Nat.pow_succ, Nat.mul_comm (2 ^ k) 2, Nat.mul_assoc, bstep_two]
    exact ih y
theorem xor_parts (c : Nat) : c = (16 * (c / 16)) ^^^ (c % 16) := by
  have h1 := (Nat.two_pow_add_eq_or_of_lt (i := 4) (b := c % 16) (by omega) (c / 16))
  have h2 : (2 ^ 4 * (c / 16)) &&& (c % 16) = 0 := by
    apply Nat.eq_of_testBit_eq
    intro i
    rw [Nat.testBit_and, Nat.zero_testBit, Nat.testBit_two_pow_mul]
    by_cases h : 4 ≤ i
    · have : (c % 16).testBit i = false := by
        apply Nat.testBit_lt_two_pow
        calc c % 16 < 2 ^ 4 := by omega
          _ ≤ 2 ^ i := Nat.pow_le_pow_right (by omega) h
      simp [this]
    · simp [h]
  apply Nat.eq_of_testBit_eq
  intro i
  have h3 := congrArg (Nat.testBit · i) h1
  have h4 := congrArg (Nat.testBit · i) h2
  simp only [Nat.testBit_or, Nat.testBit_and, Nat.zero_testBit] at h3 h4
  rw [Nat.testBit_xor]
  have e : (16 * (c / 16)).testBit i = (2 ^ 4 * (c / 16)).testBit i := rfl
  rw [e]
  have hc : c = 2 ^ 4 * (c / 16) + c % 16 := by omega
  rw [← hc] at h3
  have key : ∀ t u v : Bool, t = (u || v) → (u && v) = false → t = (u ^^ v) := by decide
  exact key _ _ _ h3 h4
theorem step4_eq (c : Nat) : step4 c = bsteps 4 c := by
  conv => rhs; rw [xor_parts c, bsteps_xor]
  rw [show 16 * (c / 16) = 2 ^ 4 * (c / 16) from rfl, bsteps_pow]
  rfl
theorem bytestep_eq (c x : Nat) : bytestep c x = bsteps 8 (c ^^^ x) := by
  unfold bytestep
  rw [step4_eq, step4_eq, ← bsteps_add]

theorem bstep_lt {c : Nat} (h : c < 4294967296) : bstep c < 4294967296 := by
  have h1 : c / 2 < 2 ^ 32 := by omega
  have h2 : c % 2 * 2197175160 < 2 ^ 32 := by omega
  exact Nat.xor_lt_two_pow h1 h2
theorem bsteps_lt {k c : Nat} (h : c < 4294967296) : bsteps k c < 4294967296 := by
  induction k generalizing c with
  | zero => exact h
  | succ k ih => exact ih (bstep_lt h)
theorem xor_lt {a b : Nat} (ha : a < 4294967296) (hb : b < 4294967296) : a ^^^ b < 4294967296 :=
  Nat.xor_lt_two_pow (n := 32) ha hb
/-- What a row of bytes makes of c. -/
def run (c : Nat) (l : Bytes) : Nat := l.foldl (fun c x => bsteps 8 (c ^^^ x.toNat)) c
def upd (s : Nat) (l : Bytes) : Nat := run (s ^^^ M32) l ^^^ M32
def sum (l : Bytes) : Nat := upd 0 l

theorem run_append (c : Nat) (a b : Bytes) : run c (a ++ b) = run (run c a) b := List.foldl_append
theorem u8_lt (x : UInt8) : x.toNat < 256 := x.toNat_lt
theorem run_lt {c : Nat} (h : c < 4294967296) (l : Bytes) : run c l < 4294967296 := by
  induction l generalizing c with
  | nil => exact h
  | cons x l ih => exact ih (bsteps_lt (xor_lt h (by have := u8_lt x; omega)))
theorem M32_lt : M32 < 4294967296 := by decide
theorem upd_lt {s : Nat} (h : s < 4294967296) (l : Bytes) : upd s l < 4294967296 := xor_lt (run_lt (xor_lt h M32_lt) l) M32_lt
theorem sum_lt (l : Bytes) : sum l < 4294967296 := upd_lt (by omega) l
theorem xor_twice (a b : Nat) : (a ^^^ b) ^^^ b = a := by rw [Nat.xor_assoc, Nat.xor_self, Nat.xor_zero]
theorem upd_append (s : Nat) (a b : Bytes) : upd s (a ++ b) = upd (upd s a) b := by
  unfold upd
  rw [run_append, xor_twice]
end Go.Proofs.YtbpldkhgiddmlaaGreatDoor

/-
  newTable.
-/
set_option linter.unusedVariables false
namespace Go.Proofs.YtbpldkhgiddmlaaGreatDoor
open Go.RowKit

def tcells (k : Nat) : List Value := (List.range 16).map fun i => .int .u32 ((if i < k then tab i else 0 : Nat) : Int)
theorem tcells_set (k : Nat) (h : k < 16) : (tcells k).set k (.int .u32 (tab k : Nat)) = tcells (k + 1) := by
  apply List.ext_getElem?
  intro i
  unfold tcells
  rw [List.getElem?_set]
  simp only [List.getElem?_map, List.length_map, List.length_range]
  by_cases hi : k = i
  · subst hi
    simp [h]
  · rw [if_neg hi]
    by_cases h16 : i < 16
    · simp only [List.getElem?_range h16, Option.map_some]
      congr 3
      by_cases h1 : i < k
      · rw [if_pos h1, if_pos (by omega)]
      · rw [if_neg h1, if_neg (by omega)]
    · rw [List.getElem?_eq_none (by simpa using h16)]
      rfl

theorem bstep_val (c : Nat) (h : c < 4294967296) : bits .xor .u32 ((c : Int) / 2) (2197175160 * bits .and .u32 (c : Int) 1 % 4294967296) = ((bstep c : Nat) : Int) := by
  have h1 : bits .and .u32 (c : Int) 1 = ((c % 2 : Nat) : Int) := by
    have := u32_and_nat c 1 h (by omega)
    rw [nat_mask1] at this
    exact this
  have h2 : (2197175160 * ((c % 2 : Nat) : Int) % 4294967296) = ((c % 2 * 2197175160 : Nat) : Int) := by omega
  have h3 : (c : Int) / 2 = ((c / 2 : Nat) : Int) := by omega
  rw [h1, h2, h3, u32_xor_nat _ _ (by omega) (by omega)]
  rfl
theorem bsteps_val (j k : Nat) (hk : k < 16) : bits .xor .u32 (((bsteps j k : Nat) : Int) / 2) (2197175160 * bits .and .u32 ((bsteps j k : Nat) : Int) 1 % 4294967296) = ((bsteps (j + 1) k : Nat) : Int) := by
  rw [bstep_val _ (bsteps_lt (by omega)), bsteps_succ]

theorem results_cell {fn : Func} {P : Program} {p : Tmp} {ty : TypeId} {tmps : Array Value} {w : World} {a : Addr} {v : Value} (h : fn.results = #[.cell p ty]) (ha : tmps.getD p undef = .pointer (some a)) (hl : (loadVar ty a).run P w = .ok v w) :
    (results fn tmps).run P w = .ok v w := by
  rw [Array.getD_eq_getD_getElem?] at ha
  simp only [results, h]
  simp [ha, asAddr, hl]
def TabIn (w0 wr : World) (k : Nat) : Prop :=
  Blk wr w0.heap.size 171 (tcells 0) ∧ Blk wr (w0.heap.size + 1) 171 (tcells k) ∧ Only (w0.heap.size ≤ ·) w0 wr

set_option maxRecDepth 100000 in
set_option maxHeartbeats 1600000 in
theorem newTable_c (w : World) :
    Calls Tryz.prog 119 #[] w fun e w' => e = .returned (.agg (tcells 16).toArray) ∧ Only (w.heap.size ≤ ·) w w' := by
  go_enter Tryz.func119, Tryz.ntmps119
  go_wp2
  go_loopw [5] (fun n wr => ∃ k : Nat, k ≤ 16 ∧ n = .int .u32 k ∧ TabIn w wr k) (fun n _ => 16 - (intOf n).toNat)
  case atStart => 
    refine ⟨0, by omega, rfl, ?_, ?_, ?_⟩
    · exact (Blk.new w 171 (tcells 0)).alloc _
    · have := Blk.new (w.alloc (.cells (tcells 0).toArray 171)) 171 (tcells 0)
      rw [show (w.alloc (.cells (tcells 0).toArray 171)).heap.size = w.heap.size + 1 by simp] at this
      exact this
    · exact ((Only.refl _ w).alloc (fun _ h => h) _).alloc (fun _ h => h) _
  case round =>
    obtain ⟨k, hk, rfl, ht⟩ := hrel
    have HT := Lib.hid ht
    clear ht
    by_cases hlt : k < 16
    · have i1 : (k : Int) < 16 := by omega
      go_wp2
      go_loopw [9, 3] (fun i c wr' => ∃ j : Nat, j ≤ 4 ∧ i = .int .i64 j ∧ c = .int .u32 (bsteps j k : Nat) ∧ wr' = wr) (fun i _ _ => 4 - (intOf i).toNat)
      case atStart => exact ⟨0, by omega, rfl, rfl, rfl⟩
      case round =>
        obtain ⟨j, hj, rfl, rfl, rfl⟩ := hrel
        by_cases hj4 : j < 4
        · have j1 : (j : Int) < 4 := by omega
          go_wp2
          refine ⟨⟨j + 1, by omega, by go_num, by rw [bsteps_val j k hlt], trivial⟩, ?_⟩
          simp [intOf]
          omega
        · obtain rfl : j = 4 := by omega
          have c1 : wr.cell? ⟨w.heap.size + 1, k, none⟩ = some (.int .u32 0) := by
            rw [HT.out.2.1.cell]
            simp [tcells, hlt]
          have c2 : wr.frozen? ⟨w.heap.size + 1, k, none⟩ = false := HT.out.2.1.frozen k
          go_wp2
          have H1 : Hid (TabIn w (wr.setCell ⟨w.heap.size + 1, k, none⟩ (.int .u32 (bsteps 4 k : Nat))) (k + 1)) := by
            refine ⟨HT.out.1.far (by simp) _, ?_, HT.out.2.2.setCell (by show _ ≤ _; simp) _⟩
            have := HT.out.2.1.set_ k (.int .u32 (tab k : Nat))
            rw [tcells_set k hlt] at this
            exact this
          refine ⟨⟨k + 1, by omega, by go_num, H1.out⟩, ?_⟩
          simp [intOf]
          omega
    · obtain rfl : k = 16 := by omega
      have HR : Hid (wr.rangeAt (w.heap.size + 1) 0 (tcells 16)) := HT.out.2.1.range 0 16
      have HTh : Hid (wr.there w.heap.size 0 16) := HT.out.1.there 0 16 (Nat.le_refl _)
      go_wp2_with (first | (refine wpList_load_mid rfl 171 (.tmp 1) rfl (w.heap.size + 1) 0 (by simp [Act.eval]) (tcells 16) _ HR.out Tryz.underlying171 rfl (by kernel_rfl) ?_) | (refine wpList_store_mid rfl 171 (.tmp 0) (.tmp 23) rfl w.heap.size 0 (tcells 16).toArray (by simp [Act.eval, Act.put]) (by simp [Act.eval, Act.put]) HTh.out (by kernel_rfl) (by kernel_rfl) ?_))
      have HB : Hid (Blk (wr.setCells w.heap.size 0 (tcells 16)) w.heap.size 171 (tcells 16)) := by
        have := HT.out.1.setN (tcells 16) 0 (Nat.le_refl _)
        exact this
      have HO : Hid (Only (w.heap.size ≤ ·) w (wr.setCells w.heap.size 0 (tcells 16))) := HT.out.2.2.setCells _ _ _ (Nat.le_refl _)
      have hl := run_loadVar_mid (P := Tryz.prog) (wr.setCells w.heap.size 0 (tcells 16)) w.heap.size 0 171 (tcells 16) _ (HB.out.range 0 16) Tryz.underlying171 rfl (by kernel_rfl)
      exact bodyPost_ret (v := .agg (tcells 16).toArray) (results_cell rfl rfl hl) rfl ⟨rfl, HO.out⟩
end Go.Proofs.YtbpldkhgiddmlaaGreatDoor

/-
  Update, Of.
-/
set_option linter.unusedVariables false
namespace Go.Proofs.YtbpldkhgiddmlaaGreatDoor
open Go.RowKit

theorem run_take_succ (c : Nat) (xs : Bytes) (k : Nat) (x : UInt8) (h : xs[k]? = some x) : run c (xs.take (k + 1)) = bytestep (run c (xs.take k)) x.toNat := by
  rw [List.take_add_one, h, run_append, bytestep_eq]
  rfl

theorem and15 (c d : Nat) (h : c < 4294967296) (hd : d = c % 16) : bits .and .u32 (c : Int) 15 = (d : Int) := by
  have := u32_and_nat c 15 h (by omega)
  rw [nat_mask4, ← hd] at this
  exact this
theorem tab_lt (d : Nat) (h : d < 16) : tab d < 4294967296 := bsteps_lt (by omega)
theorem fold_val (c d t : Nat) (h : c < 4294967296) (hd : d = c % 16) (ht : t = tab d) : bits .xor .u32 ((c : Int) / 16) (t : Int) = ((step4 c : Nat) : Int) := by
  have h3 : (c : Int) / 16 = ((c / 16 : Nat) : Int) := by omega
  have h4 := tab_lt d (by omega)
  rw [h3, u32_xor_nat _ _ (by omega) (by omega)]
  unfold step4
  rw [ht, hd]
theorem step4_lt {c : Nat} (h : c < 4294967296) : step4 c < 4294967296 := by rw [step4_eq]; exact bsteps_lt h

/-- The table lies here. -/
def TabAt (w : World) (g : Nat) : Prop := Blk w g 171 (tcells 16)
theorem TabAt.cell {w : World} {g : Nat} (h : TabAt w g) (d : Nat) (hd : d < 16) : w.cell? ⟨g, d, none⟩ = some (.int .u32 (tab d : Nat)) := by
  have := Blk.cell h d
  rw [this]
  simp [tcells, hd]

def zs16 : List Value := [.int .u32 0, .int .u32 0, .int .u32 0, .int .u32 0, .int .u32 0, .int .u32 0, .int .u32 0, .int .u32 0, .int .u32 0, .int .u32 0, .int .u32 0, .int .u32 0, .int .u32 0, .int .u32 0, .int .u32 0, .int .u32 0]
theorem there38 (w1 : World) : (w1.alloc (.cells #[.int .u32 0, .int .u32 0, .int .u32 0, .int .u32 0, .int .u32 0, .int .u32 0, .int .u32 0, .int .u32 0, .int .u32 0, .int .u32 0, .int .u32 0, .int .u32 0, .int .u32 0, .int .u32 0, .int .u32 0, .int .u32 0] 171)).there w1.heap.size 0 (tcells 16).toArray.size := by
  have h : (tcells 16).toArray.size = 16 := by simp [tcells]
  rw [h]
  exact (Blk.new w1 171 zs16).there 0 16 (by decide)
theorem tab38 (w1 : World) : TabAt ((w1.alloc (.cells #[.int .u32 0, .int .u32 0, .int .u32 0, .int .u32 0, .int .u32 0, .int .u32 0, .int .u32 0, .int .u32 0, .int .u32 0, .int .u32 0, .int .u32 0, .int .u32 0, .int .u32 0, .int .u32 0, .int .u32 0, .int .u32 0] 171)).setCells w1.heap.size 0 (tcells 16)) w1.heap.size := by
  have h : (tcells 16).length = 16 := by simp [tcells]
  have := (Blk.new w1 171 zs16).setN (tcells 16) 0 (by rw [h]; decide)
  have e : over zs16 0 (tcells 16) = tcells 16 := by
    unfold over
    rw [h]
    simp [zs16]
  rw [e] at this
  exact this

set_option maxRecDepth 100000 in
set_option maxHeartbeats 1600000 in
theorem Update_c (w : World) (s : Nat) (hs : s < 4294967296) (A : Option Addr) (n c : Nat) (xs : Bytes) (ht : Txt w A n xs) (hn : n ≤ 1152921504606846976) :
    Calls Tryz.prog 115 #[.int .u32 s, .slice A n c] w fun e w' => e = .returned (.int .u32 (upd s xs : Nat)) ∧ Only (w.heap.size ≤ ·) w w' := by
  have hx0 : bits .xor .u32 4294967295 (s : Int) = ((s ^^^ M32 : Nat) : Int) := by
    have := u32_xor_nat 4294967295 s (by omega) hs
    rw [Nat.xor_comm] at this
    exact this
  have HT := Lib.hid ht
  clear ht
  go_enter Tryz.func115, Tryz.ntmps115
  have hsg : IntKind.u32.signed = false := rfl
  have hmx : IntKind.u32.max = 4294967295 := rfl
  go_wp2_with (first | (go_at_call 119; refine (newTable_c _).mono ?_; rintro e w1 ⟨rfl, ho1⟩; have HO1 := Lib.hid ho1; clear ho1) | (with_reducible refine wpList_store_mid rfl 171 (.tmp 5) (.tmp 9) rfl w1.heap.size 0 (tcells 16).toArray (by simp [Act.eval]) (by simp [Act.eval]) (there38 w1) (by kernel_rfl) (by kernel_rfl) ?_))
  have HB := Lib.hid (tab38 w1)
  obtain ⟨wz, hwz⟩ : ∃ wz, wz = (w1.alloc (.cells #[.int .u32 0, .int .u32 0, .int .u32 0, .int .u32 0, .int .u32 0, .int .u32 0, .int .u32 0, .int .u32 0, .int .u32 0, .int .u32 0, .int .u32 0, .int .u32 0, .int .u32 0, .int .u32 0, .int .u32 0, .int .u32 0] 171)).setCells w1.heap.size 0 (tcells 16) := ⟨_, rfl⟩
  rw [← hwz] at HB ⊢
  have HO : Hid (Only (w.heap.size ≤ ·) w wz) := by
    subst hwz
    exact (HO1.out.alloc (fun _ h => h) _).setCells _ _ _ HO1.out.size
  have HT2 : Hid (Txt wz A n xs) := HT.out.later HO.out
  clear hwz
  obtain ⟨g, hg⟩ : ∃ g, g = w1.heap.size := ⟨_, rfl⟩
  rw [← hg] at HB ⊢
  clear HO1 hg w1 hsg hmx
  go_loop [14, 6] (fun i v => ∃ k : Nat, k ≤ n ∧ i = .int .i64 k ∧ v = .int .u32 (run (s ^^^ M32) (xs.take k) : Nat)) (fun i _ => n - (intOf i).toNat)
  case atStart => exact ⟨0, Nat.zero_le _, rfl, rfl⟩
  case round =>
    obtain ⟨k, hk, rfl, rfl⟩ := hrel
    by_cases hlt : k < n
    · have hkn : (k : Int) < (n : Int) := by omega
      obtain ⟨ad, rfl, hc⟩ := HT2.out.2 (by omega)
      have hlen := HT2.out.1
      obtain ⟨x, hx⟩ : ∃ x, xs[k]? = some x := ⟨_, List.getElem?_eq_getElem (by omega)⟩
      have hcx : wz.cell? (ad.add k) = some (.int .u8 (x.toNat : Nat)) := hc k _ (by simp [cb, hx])
      have hnx : run (s ^^^ M32) (xs.take (k + 1)) = bytestep (run (s ^^^ M32) (xs.take k)) x.toNat := run_take_succ _ _ _ _ hx
      have hx8 := u8_lt x
      have hC : run (s ^^^ M32) (xs.take k) < 4294967296 := run_lt (xor_lt hs M32_lt) _
      obtain ⟨C', hC'⟩ : ∃ C', C' = run (s ^^^ M32) (xs.take (k + 1)) := ⟨_, rfl⟩
      rw [← hC'] at hnx
      have HC' := Lib.hid hC'
      clear hC'
      generalize run (s ^^^ M32) (xs.take k) = C at hnx hC ⊢
      generalize x.toNat = y at hnx hx8 hcx
      clear hx hc hlen x
      obtain ⟨c1, hc1⟩ : ∃ c1, c1 = C ^^^ y := ⟨_, rfl⟩
      have l1 : c1 < 4294967296 := by rw [hc1]; exact xor_lt hC (by omega)
      obtain ⟨d1, hd1⟩ : ∃ d1, d1 = c1 % 16 := ⟨_, rfl⟩
      obtain ⟨c2, hc2⟩ : ∃ c2, c2 = step4 c1 := ⟨_, rfl⟩
      have l2 : c2 < 4294967296 := by rw [hc2]; exact step4_lt l1
      obtain ⟨d2, hd2⟩ : ∃ d2, d2 = c2 % 16 := ⟨_, rfl⟩
      have e1 : bits .xor .u32 (C : Int) (y : Int) = (c1 : Int) := by rw [hc1]; exact u32_xor_nat C y hC (by omega)
      have e2 := and15 c1 d1 l1 hd1
      have e3 := fold_val c1 d1 _ l1 hd1 rfl
      have e4 := and15 c2 d2 l2 hd2
      have e5 := fold_val c2 d2 _ l2 hd2 rfl
      rw [← hc2] at e3
      have e6 : step4 c2 = C' := by rw [hnx, hc2, hc1]; rfl
      rw [e6] at e5
      have k1 : (d1 : Int) < 16 := by omega
      have k2 : (d2 : Int) < 16 := by omega
      have t1 := HB.out.cell d1 (by omega)
      have t2 := HB.out.cell d2 (by omega)
      have y1 : (y : Int) < 4294967296 := by omega
      clear hnx hx8 hC hc1 l1 hd1 hc2 l2 hd2 e6
      go_wp2
      refine ⟨⟨k + 1, by omega, by go_num, by rw [HC'.out]⟩, ?_⟩
      simp [intOf]
      omega
    · obtain rfl : k = n := by omega
      have hlen := HT2.out.1
      have E : Hid (upd s xs = run (s ^^^ M32) xs ^^^ M32) := rfl
      have hC : run (s ^^^ M32) xs < 4294967296 := run_lt (xor_lt hs M32_lt) _
      rw [List.take_of_length_le (by omega)]
      clear hlen
      obtain ⟨C, hCe⟩ : ∃ C, C = run (s ^^^ M32) xs := ⟨_, rfl⟩
      rw [← hCe] at E hC ⊢
      clear hCe
      have hx1 : bits .xor .u32 4294967295 (C : Int) = ((C ^^^ M32 : Nat) : Int) := by
        have := u32_xor_nat 4294967295 C (by omega) hC
        rw [Nat.xor_comm] at this
        exact this
      have hkm : ¬ (k : Int) < (k : Int) := by omega
      have hsg : IntKind.u32.signed = false := rfl
      have hmx : IntKind.u32.max = 4294967295 := rfl
      clear hC
      go_wp2
      go_ret
      exact ⟨by rw [E.out]; rfl, HO.out⟩

set_option maxRecDepth 100000 in
theorem crcOf_c (w : World) (A : Option Addr) (n c : Nat) (xs : Bytes) (ht : Txt w A n xs) (hn : n ≤ 1152921504606846976) :
    Calls Tryz.prog 116 #[.slice A n c] w fun e w' => e = .returned (.int .u32 (sum xs : Nat)) ∧ Only (w.heap.size ≤ ·) w w' := by
  have HT := Lib.hid ht
  clear ht
  go_enter Tryz.func116, Tryz.ntmps116
  go_wp2_with (go_at_call 115; refine (Update_c _ 0 (by omega) A n c xs HT.out hn).mono ?_; rintro e w1 ⟨rfl, ho1⟩)
  go_ret
  exact ⟨rfl, ho1⟩
end Go.Proofs.YtbpldkhgiddmlaaGreatDoor

/-
  A row of bits, divided, is the sum: plain lists.
-/
set_option linter.unusedVariables false
namespace Go.Proofs.YtbpldkhgiddmlaaGreatDoor

def byteBits : Nat → Nat → List Bool
  | 0, _ => []
  | k + 1, n => decide (n % 2 = 1) :: byteBits k (n / 2)
def bitsOf (l : Bytes) : List Bool := l.flatMap fun x => byteBits 8 x.toNat

theorem byteBits_length (k n : Nat) : (byteBits k n).length = k := by
  induction k generalizing n with
  | zero => rfl
  | succ k ih => simp [byteBits, ih]
theorem byteBits_snoc (k n : Nat) : byteBits (k + 1) n = byteBits k n ++ [decide (n / 2 ^ k % 2 = 1)] := by
  induction k generalizing n with
  | zero => simp [byteBits]
  | succ k ih =>
    have e : n / 2 / 2 ^ k = n / 2 ^ (k + 1) := by rw [Nat.div_div_eq_div_mul, Nat.pow_succ, Nat.mul_comm]
    show decide (n % 2 = 1) :: byteBits (k + 1) (n / 2) = decide (n % 2 = 1) :: byteBits k (n / 2) ++ _
    rw [ih, e]
    rfl
theorem bitsOf_length (l : Bytes) : (bitsOf l).length = 8 * l.length := by
  induction l with
  | nil => rfl
  | cons x l ih => simp only [bitsOf, List.flatMap_cons, List.length_append, byteBits_length, List.length_cons] at ih ⊢; omega
theorem bitsOf_snoc (l : Bytes) (k : Nat) (x : UInt8) (h : l[k]? = some x) : bitsOf (l.take (k + 1)) = bitsOf (l.take k) ++ byteBits 8 x.toNat := by
  rw [List.take_add_one, h]
  simp [bitsOf]

def bit (b : Bool) : Nat := if b then 1 else 0
/-- What a row of bits makes of c. -/
def inj (c : Nat) (l : List Bool) : Nat := l.foldl (fun c b => bstep (c ^^^ bit b)) c
theorem inj_append (c : Nat) (a b : List Bool) : inj c (a ++ b) = inj (inj c a) b := List.foldl_append

theorem bit_mod (n : Nat) : bit (decide (n % 2 = 1)) = n % 2 := by
  rcases Nat.mod_two_eq_zero_or_one n with h | h <;> simp [bit, h]
theorem xor_split (x : Nat) : (x % 2) ^^^ (2 * (x / 2)) = x := by
  apply Nat.eq_of_testBit_eq
  intro i
  rw [Nat.testBit_xor]
  cases i with
  | zero =>
    rw [Nat.testBit_zero, Nat.testBit_zero, Nat.testBit_zero, Nat.mul_mod_right, Nat.mod_mod]
    simp
  | succ i =>
    rw [Nat.testBit_succ, Nat.testBit_succ, Nat.testBit_succ]
    rw [show x % 2 / 2 = 0 by omega, show 2 * (x / 2) / 2 = x / 2 by omega]
    simp
theorem bstep_bit (c x : Nat) : bstep (c ^^^ x) = bstep (c ^^^ (x % 2)) ^^^ (x / 2) := by
  have h : c ^^^ x = (c ^^^ (x % 2)) ^^^ (2 * (x / 2)) := by rw [Nat.xor_assoc, xor_split]
  rw [h, bstep_xor, bstep_two]
theorem inj_byteBits (k c x : Nat) : inj c (byteBits k x) ^^^ (x / 2 ^ k) = bsteps k (c ^^^ x) := by
  induction k generalizing c x with
  | zero => show c ^^^ (x / 1) = _; rw [Nat.div_one]; rfl
  | succ k ih =>
    show inj (bstep (c ^^^ bit (decide (x % 2 = 1)))) (byteBits k (x / 2)) ^^^ _ = bsteps k (bstep (c ^^^ x))
    rw [bit_mod, bstep_bit c x, ← ih, Nat.div_div_eq_div_mul, Nat.pow_succ, Nat.mul_comm 2]
theorem inj_byte (c : Nat) (x : UInt8) : inj c (byteBits 8 x.toNat) = bsteps 8 (c ^^^ x.toNat) := by
  have := inj_byteBits 8 c x.toNat
  rw [show x.toNat / 2 ^ 8 = 0 by have := u8_lt x; omega, Nat.xor_zero] at this
  exact this
theorem inj_bitsOf (c : Nat) (l : Bytes) : inj c (bitsOf l) = run c l := by
  induction l generalizing c with
  | nil => rfl
  | cons x l ih =>
    show inj c (byteBits 8 x.toNat ++ bitsOf l) = _
    rw [inj_append, inj_byte, ih]
    rfl
/-- The bits, the first ones turned where c has a bit. -/
def regX (c : Nat) (l : List Bool) : List Bool := l.mapIdx fun j b => b ^^ c.testBit j
theorem regX_get (c : Nat) (l : List Bool) (j : Nat) : (regX c l)[j]? = l[j]?.map fun b => b ^^ c.testBit j := by
  simp [regX, List.getElem?_mapIdx]
theorem regX_length (c : Nat) (l : List Bool) : (regX c l).length = l.length := by simp [regX]

/-- Behind i rounds of the division. -/
def divs (o : List Bool) (i : Nat) : List Bool := List.replicate i false ++ regX (inj M32 (o.take i)) (o.drop i)
theorem divs_length (o : List Bool) (i : Nat) (h : i ≤ o.length) : (divs o i).length = o.length := by
  simp [divs, regX_length]; omega
theorem divs_low (o : List Bool) (i m : Nat) (h : m < i) : (divs o i)[m]? = some false := by
  unfold divs
  rw [List.getElem?_append_left (by simpa using h), List.getElem?_replicate, if_pos h]
theorem divs_high (o : List Bool) (i m : Nat) (h : i ≤ m) : (divs o i)[m]? = o[m]?.map fun b => b ^^ (inj M32 (o.take i)).testBit (m - i) := by
  unfold divs
  rw [List.getElem?_append_right (by simpa using h), List.length_replicate, regX_get, List.getElem?_drop]
  congr 2
  omega

def pows : List Nat := [28, 27, 26, 25, 23, 22, 20, 19, 18, 14, 13, 11, 10, 9, 8, 6, 0]
def flip1 (l : List Bool) (m : Nat) : List Bool := l.set m (!(l[m]?.getD false))
def flips (l : List Bool) (i : Nat) (ps : List Nat) : List Bool := ps.foldl (fun l p => flip1 l (i + 32 - p)) l
theorem flip1_length (l : List Bool) (m : Nat) : (flip1 l m).length = l.length := by simp [flip1]
theorem flip1_get (l : List Bool) (m j : Nat) : (flip1 l m)[j]? = l[j]?.map fun b => b ^^ decide (j = m) := by
  unfold flip1
  rw [List.getElem?_set]
  by_cases h : m = j
  · subst h
    rcases Nat.lt_or_ge m l.length with hl | hl
    · simp [hl]
    · rw [List.getElem?_eq_none hl]; simp; omega
  · rw [if_neg h]
    have : decide (j = m) = false := by simpa using fun e => h e.symm
    rw [this]
    simp
theorem flips_length (l : List Bool) (i : Nat) (ps : List Nat) : (flips l i ps).length = l.length := by
  induction ps generalizing l with
  | nil => rfl
  | cons p ps ih => show (flips (flip1 l _) i ps).length = _; rw [ih, flip1_length]
def odd (i j : Nat) : List Nat → Bool
  | [] => false
  | p :: ps => decide (j = i + 32 - p) ^^ odd i j ps
theorem flips_get (l : List Bool) (i j : Nat) (ps : List Nat) : (flips l i ps)[j]? = l[j]?.map fun b => b ^^ odd i j ps := by
  induction ps generalizing l with
  | nil => simp [flips, odd]
  | cons p ps ih =>
    show (flips (flip1 l _) i ps)[j]? = _
    rw [ih, flip1_get, Option.map_map]
    congr 1
    funext b
    simp [odd]
theorem flips_snoc (l : List Bool) (i k p : Nat) (h : pows[k]? = some p) : flips l i (pows.take (k + 1)) = flip1 (flips l i (pows.take k)) (i + 32 - p) := by
  rw [List.take_add_one, h]
  simp [flips, List.foldl_append]

theorem odd_shift (i d : Nat) (ps : List Nat) (h : ∀ p ∈ ps, p ≤ 31) : odd i (i + d) ps = odd 0 d ps := by
  induction ps with
  | nil => rfl
  | cons p ps ih =>
    have hp := h p (List.mem_cons_self ..)
    rw [odd, odd, ih fun q hq => h q (List.mem_cons_of_mem _ hq)]
    congr 2
    apply propext
    omega
theorem pows_le : ∀ p ∈ pows, p ≤ 31 := by decide
theorem odd_low (i d : Nat) (ps : List Nat) (h : ∀ p ∈ ps, p ≤ 31) (hd : d ≤ i) : odd i d ps = false := by
  induction ps with
  | nil => rfl
  | cons p ps ih =>
    have hp := h p (List.mem_cons_self ..)
    rw [odd, ih fun q hq => h q (List.mem_cons_of_mem _ hq)]
    have : decide (d = i + 32 - p) = false := by simp; omega
    rw [this]
    rfl
theorem odd_high (d : Nat) (ps : List Nat) (hd : 32 < d) : odd 0 d ps = false := by
  induction ps with
  | nil => rfl
  | cons p ps ih =>
    rw [odd, ih]
    have : decide (d = 0 + 32 - p) = false := by simp; omega
    rw [this]
    rfl
theorem poly_low : ∀ j, j < 32 → odd 0 (j + 1) pows = (2197175160 : Nat).testBit j := by decide
theorem poly_odd (j : Nat) : odd 0 (j + 1) pows = (2197175160 : Nat).testBit j := by
  by_cases h : j < 32
  · exact poly_low j h
  · rw [odd_high _ _ (by omega)]
    symm
    apply Nat.testBit_lt_two_pow
    calc 2197175160 < 2 ^ 32 := by decide
      _ ≤ 2 ^ j := Nat.pow_le_pow_right (by omega) (by omega)

theorem bstep_get (c j : Nat) : (bstep c).testBit j = (c.testBit (j + 1) ^^ (c.testBit 0 && (2197175160 : Nat).testBit j)) := by
  unfold bstep
  rw [Nat.testBit_xor, Nat.testBit_succ, Nat.testBit_zero]
  rcases Nat.mod_two_eq_zero_or_one c with h | h
  · rw [h, Nat.zero_mul]; simp
  · rw [h, Nat.one_mul]; simp
theorem bit_get (b : Bool) (j : Nat) : (bit b).testBit j = (b && decide (j = 0)) := by
  cases b
  · simp [bit]
  · cases j with
    | zero => rfl
    | succ j => rw [Nat.testBit_succ]; show Nat.testBit (1 / 2) j = _; simp
theorem inj_take_succ (o : List Bool) (i : Nat) (b : Bool) (h : o[i]? = some b) : inj M32 (o.take (i + 1)) = bstep (inj M32 (o.take i) ^^^ bit b) := by
  rw [List.take_add_one, h, inj_append]
  rfl

/-- The bit at the head of the round. -/
theorem divs_head (o : List Bool) (i : Nat) (b : Bool) (h : o[i]? = some b) : (divs o i)[i]? = some (b ^^ (inj M32 (o.take i)).testBit 0) := by
  rw [divs_high o i i (Nat.le_refl _), h, Nat.sub_self]
  rfl
theorem divs_keep (o : List Bool) (i : Nat) (b : Bool) (h : o[i]? = some b) (hb : (b ^^ (inj M32 (o.take i)).testBit 0) = false) : divs o (i + 1) = divs o i := by
  apply List.ext_getElem?
  intro m
  rcases Nat.lt_or_ge m i with h1 | h1
  · rw [divs_low _ _ _ (by omega), divs_low _ _ _ h1]
  · rcases Nat.lt_or_ge i m with h2 | h2
    · rw [divs_high _ _ _ h2, divs_high _ _ _ h1, inj_take_succ o i b h]
      congr 1
      funext u
      rw [bstep_get, Nat.testBit_xor, Nat.testBit_xor, bit_get, bit_get]
      have e : m - (i + 1) + 1 = m - i := by omega
      rw [e]
      have e2 : decide (m - i = 0) = false := by simp; omega
      rw [e2]
      simp only [decide_true, Bool.and_true, Bool.and_false, Bool.xor_false]
      rw [Bool.xor_comm] at hb
      rw [hb]
      simp
    · obtain rfl : m = i := by omega
      rw [divs_low _ _ _ (by omega), divs_head o m b h, hb]
theorem divs_turn (o : List Bool) (i : Nat) (b : Bool) (h : o[i]? = some b) (hb : (b ^^ (inj M32 (o.take i)).testBit 0) = true) : flips ((divs o i).set i false) i pows = divs o (i + 1) := by
  apply List.ext_getElem?
  intro m
  rw [flips_get, List.getElem?_set]
  rcases Nat.lt_or_ge m i with h1 | h1
  · rw [if_neg (by omega), divs_low _ _ _ h1, divs_low _ _ _ (by omega), odd_low _ _ _ pows_le (by omega)]
    rfl
  · rcases Nat.lt_or_ge i m with h2 | h2
    · rw [if_neg (by omega), divs_high _ _ _ h2, divs_high _ _ _ h1, inj_take_succ o i b h, Option.map_map]
      congr 1
      funext u
      simp only [Function.comp]
      obtain ⟨j, rfl⟩ : ∃ j, m = i + (j + 1) := ⟨m - i - 1, by omega⟩
      rw [odd_shift _ _ _ pows_le, poly_odd, bstep_get, Nat.testBit_xor, Nat.testBit_xor, bit_get, bit_get]
      have e : i + (j + 1) - (i + 1) = j := by omega
      have e' : i + (j + 1) - i = j + 1 := by omega
      rw [e, e']
      have e2 : decide (j + 1 = 0) = false := by simp
      rw [e2]
      simp only [decide_true, Bool.and_true, Bool.and_false, Bool.xor_false]
      rw [Bool.xor_comm] at hb
      rw [hb]
      simp
    · obtain rfl : m = i := by omega
      have hl : m < (divs o m).length := by
        rw [divs_length _ _ (by have := (List.getElem?_eq_some_iff.1 h).1; omega)]
        exact (List.getElem?_eq_some_iff.1 h).1
      rw [if_pos rfl, if_pos hl, odd_low _ _ _ pows_le (by omega), divs_low _ _ _ (by omega)]
      rfl

/-- The bits of a message, and noughts behind. -/
def orig (l : Bytes) : List Bool := bitsOf l ++ List.replicate 32 false
theorem orig_length (l : Bytes) : (orig l).length = 8 * l.length + 32 := by simp [orig, bitsOf_length]
theorem divs_end (l : Bytes) (j : Nat) (hj : j < 32) : (divs (orig l) (8 * l.length))[8 * l.length + j]? = some ((run M32 l).testBit j) := by
  rw [divs_high _ _ _ (by omega)]
  have e1 : (orig l).take (8 * l.length) = bitsOf l := by
    unfold orig
    rw [List.take_left' (bitsOf_length l)]
  have e2 : (orig l)[8 * l.length + j]? = some false := by
    unfold orig
    rw [List.getElem?_append_right (by rw [bitsOf_length]; omega), bitsOf_length, List.getElem?_replicate, if_pos (by omega)]
  rw [e1, e2, inj_bitsOf, Nat.add_sub_cancel_left]
  simp
theorem divs_zero (o : List Bool) : divs o 0 = regX M32 o := by simp [divs, inj]
theorem M32_get (j : Nat) : M32.testBit j = decide (j < 32) := by
  have : M32 = 2 ^ 32 - 1 := rfl
  rw [this, Nat.testBit_two_pow_sub_one]
theorem turn_end {c : Nat} (k : Nat) (hk : k < 32) : (c ^^^ M32) / 2 ^ k = 2 * ((c ^^^ M32) / 2 ^ (k + 1)) + (if c.testBit k then 0 else 1) := by
  have h1 : ((c ^^^ M32) / 2 ^ k) % 2 = (if c.testBit k then 0 else 1) := by
    have h2 := Nat.testBit_xor c M32 k
    rw [M32_get, Nat.testBit_eq_decide_div_mod_eq] at h2
    have hd : decide (k < 32) = true := by simpa using hk
    rw [hd] at h2
    rcases Nat.mod_two_eq_zero_or_one ((c ^^^ M32) / 2 ^ k) with h | h
    · rw [h] at h2 ⊢
      cases hc : c.testBit k
      · rw [hc] at h2; simp at h2
      · rfl
    · rw [h] at h2 ⊢
      cases hc : c.testBit k
      · rfl
      · rw [hc] at h2; simp at h2
  rw [← h1, Nat.pow_succ, ← Nat.div_div_eq_div_mul]
  omega
end Go.Proofs.YtbpldkhgiddmlaaGreatDoor

/-
  The document's own bits.
-/
set_option linter.unusedVariables false
namespace Go.Proofs.YtbpldkhgiddmlaaGreatDoor
open Go.RowKit

def bs (l : List Bool) : List Value := l.map .bool
theorem bs_append (a b : List Bool) : bs (a ++ b) = bs a ++ bs b := by simp [bs]
theorem bs_one (l : List Bool) : ∀ v ∈ bs l, v.oneCell' = true := by
  intro v hv
  obtain ⟨b, _, rfl⟩ := List.mem_map.1 hv
  rfl
theorem bs_get (l : List Bool) (j : Nat) : (bs l)[j]? = l[j]?.map .bool := by simp [bs]
theorem info4 : (Tryz.prog.info? 4).map (fun i => (i.zero, i.size, i.bytes)) = some (some (.bool false), 1, 1) := by kernel_rfl

/-- A row of bools that is the call's own. -/
def RowB (w0 wr : World) (v : Value) (L : List Bool) : Prop := wr.ownsRow w0.heap.size 4 1 v L.length (bs L) ∧ Only (w0.heap.size ≤ ·) w0 wr
theorem RowB.grown {w0 wr w1 w' : World} {v v' : Value} {L M : List Bool} {n : Nat} (h : RowB w0 wr v L) (ho : Only (w0.heap.size ≤ ·) wr w1) (h2 : w'.ownsRow w0.heap.size 4 1 v' n (bs L ++ bs M)) (hn : n = L.length + M.length) (h3 : w1.grownBy w' v.ownBlock) : RowB w0 w' v' (L ++ M) := by
  refine ⟨?_, (h.2.trans ho).grown h3 (fun _ h => h) (fun g hg => (h.1.lt g hg).1)⟩
  rw [List.length_append, bs_append, ← hn]
  exact h2

theorem low_beq (z : Nat) : (((z : Int) % 2 == 1) : Bool) = decide (z % 2 = 1) := by
  rcases Nat.mod_two_eq_zero_or_one z with h | h
  · have : (z : Int) % 2 = 0 := by omega
    rw [this, h]; rfl
  · have : (z : Int) % 2 = 1 := by omega
    rw [this, h]; rfl
theorem one_cell (w : World) (t : TypeId) (v : Value) : ∀ j u, [v][j]? = some u → (w.alloc (.cells #[v] t)).cell? ((⟨w.heap.size, 0, none⟩ : Addr).add j) = some u := by
  intro j u hu
  rw [Addr.add_mid, Nat.zero_add, (Blk.new w t [v]).cell]
  exact hu

set_option maxRecDepth 100000 in
set_option maxHeartbeats 1600000 in
theorem bits_c (w : World) (A : Option Addr) (n c : Nat) (xs : Bytes) (ht : Txt w A n xs) (hn : n ≤ 65536) :
    Calls Tryz.prog 105 #[.slice A n c] w fun e w' => ∃ v, e = .returned v ∧ RowB w w' v (bitsOf xs) := by
  obtain ⟨i0, hi0, hz0, hz1, hz2⟩ := info_parts info4
  have HI := Lib.hid (And.intro hi0 (And.intro hz0 (And.intro hz1 hz2)))
  clear hi0 hz0 hz1 hz2
  have HT := Lib.hid ht
  clear ht
  go_enter Tryz.func105, Tryz.ntmps105
  go_wp2
  go_loopw [4, 3] (fun i v wr => ∃ k : Nat, k ≤ n ∧ i = .int .i64 k ∧ RowB w wr v (bitsOf (xs.take k))) (fun i _ _ => n - (intOf i).toNat)
  case atStart => exact ⟨0, Nat.zero_le _, rfl, World.ownsRow_nil _ _ _ _, Only.refl _ _⟩
  case round =>
    obtain ⟨k, hk, rfl, hrow⟩ := hrel
    have HR := Lib.hid hrow
    clear hrow
    by_cases hlt : k < n
    · have hkn : (k : Int) < (n : Int) := by omega
      have hT2 := HT.out.later HR.out.2
      obtain ⟨ad, rfl, hc⟩ := hT2.2 (by omega)
      have hlen := hT2.1
      obtain ⟨x, hx⟩ : ∃ x, xs[k]? = some x := ⟨_, List.getElem?_eq_getElem (by omega)⟩
      have hcx : wr.cell? (ad.add k) = some (.int .u8 (x.toNat : Nat)) := hc k _ (by simp [cb, hx])
      have hnx := Lib.hid (bitsOf_snoc xs k x hx)
      have hLl := Lib.hid (bitsOf_length (xs.take k))
      have hx8 := u8_lt x
      obtain ⟨y, hy⟩ : ∃ y, y = x.toNat := ⟨_, rfl⟩
      rw [← hy] at hcx hnx hx8
      obtain ⟨L', hL'⟩ : ∃ L', L' = bitsOf (xs.take (k + 1)) := ⟨_, rfl⟩
      rw [← hL'] at hnx
      have HL' := Lib.hid hL'
      obtain ⟨L, hL⟩ : ∃ L, L = bitsOf (xs.take k) := ⟨_, rfl⟩
      rw [← hL] at hnx HR hLl
      have hLk : L.length ≤ 8 * 65536 := by
        have := hLl.out
        rw [List.length_take] at this
        omega
      clear hy x hx hc hlen hL hL' hT2 hLl
      go_wp2
      go_loopw [6, 5, 3] (fun j m v wr' => ∃ t : Nat, t ≤ 8 ∧ j = .int .i64 t ∧ m = .int .i64 (y / 2 ^ t : Nat) ∧ RowB w wr' v (L ++ byteBits t y)) (fun j _ _ _ => 8 - (intOf j).toNat)
      case atStart => exact ⟨0, by omega, rfl, by simp, by simpa [byteBits] using HR.out⟩
      case round =>
        clear HR
        obtain ⟨t, ht8, rfl, rfl, hrow⟩ := hrel
        have HR := Lib.hid hrow
        clear hrow
        by_cases htl : t < 8
        · have t1 : (t : Int) < 8 := by omega
          obtain ⟨z, hz⟩ : ∃ z, z = y / 2 ^ t := ⟨_, rfl⟩
          have HS := Lib.hid (byteBits_snoc t y)
          have hz2 : y / 2 ^ (t + 1) = z / 2 := by rw [hz, Nat.div_div_eq_div_mul, Nat.pow_succ]
          rw [← hz] at HS
          have HZ := Lib.hid hz2
          have zl : z < 256 := by rw [hz]; exact Nat.lt_of_le_of_lt (Nat.div_le_self _ _) hx8
          rw [← hz]
          have HL2 : Hid ((L ++ byteBits t y).length = L.length + t) := by show _ = _; rw [List.length_append, byteBits_length]
          clear hz hz2
          have HB2 : Hid (w.heap.size ≤ (wr.alloc (.cells #[.bool ((z : Int) % 2 == 1)] 4)).heap.size) := by
            have := HR.out.2.size
            show _ ≤ _
            simp
            omega
          go_wp2_with (at_builtin; refine wpList_append_own _ rfl (.tmp 22) (.tmp 26) 42 rfl w.heap.size 4 i0 _ 1 1 Tryz.underlying42 HI.out.1 HI.out.2.1 HI.out.2.2.1 HI.out.2.2.2 (by rfl) (by omega) _ _ _ rfl (HR.out.1.alloc _) ⟨wr.heap.size, 0, none⟩ 1 1 [.bool ((z : Int) % 2 == 1)] rfl (by rfl) (one_cell wr 4 _) (by simp [Value.oneCell']) (by have := HL2.out; simp only [maxLen]; omega) (by have := HL2.out; omega) HB2.out ?_; intro v' w' ho' hg' _)
          have HN : Hid (RowB w w' v' (L ++ byteBits (t + 1) y)) := by
            rw [low_beq] at ho'
            show RowB _ _ _ _
            rw [HS.out, ← List.append_assoc]
            exact HR.out.grown ((Only.refl _ wr).alloc (fun _ h => Nat.le_trans HR.out.2.size h) _) (M := [decide (z % 2 = 1)]) ho' (by simp) hg'
          refine ⟨⟨t + 1, by omega, by go_num, by rw [HZ.out]; simp, HN.out⟩, ?_⟩
          simp [intOf]
          omega
        · obtain rfl : t = 8 := by omega
          go_wp2
          rw [← hnx.out] at HR
          rw [HL'.out] at HR
          refine ⟨⟨k + 1, by omega, by go_num, HR.out⟩, ?_⟩
          simp [intOf]
          omega
    · obtain rfl : k = n := by omega
      have hkm : ¬ (k : Int) < (k : Int) := by omega
      have hlen := HT.out.1
      rw [List.take_of_length_le (by omega)] at HR
      go_wp2
      go_ret
      exact ⟨_, rfl, HR.out⟩
end Go.Proofs.YtbpldkhgiddmlaaGreatDoor

/-
  The document's own division.
-/
set_option linter.unusedVariables false
namespace Go.Proofs.YtbpldkhgiddmlaaGreatDoor
open Go.RowKit

def pcells : List Value := [.int .i64 28, .int .i64 27, .int .i64 26, .int .i64 25, .int .i64 23, .int .i64 22, .int .i64 20, .int .i64 19, .int .i64 18, .int .i64 14, .int .i64 13, .int .i64 11, .int .i64 10, .int .i64 9, .int .i64 8, .int .i64 6, .int .i64 0]
theorem pcells_eq : pcells = pows.map fun p => .int .i64 (p : Nat) := rfl

structure Div (w wr : World) (g gp cap n : Nat) (L : List Bool) : Prop where
  row : wr.ownsRow w.heap.size 4 1 (.slice (some ⟨g, 0, none⟩) n cap) n (bs L)
  pow : Blk wr gp 3 pcells
  only : Only (w.heap.size ≤ ·) w wr
  ne : gp ≠ g
theorem Div.base {w wr : World} {g gp cap n : Nat} {L : List Bool} (h : Div w wr g gp cap n L) : w.heap.size ≤ g := (h.row.lt g rfl).1
theorem Div.cell {w wr : World} {g gp cap n : Nat} {L : List Bool} (h : Div w wr g gp cap n L) (hL : L.length = n) (m : Nat) (b : Bool) (hb : L[m]? = some b) : wr.cell? ⟨g, m, none⟩ = some (.bool b) := by
  have hm : m < L.length := (List.getElem?_eq_some_iff.1 hb).1
  rw [h.row.cellAt m (by omega), bs_get, hb]
  rfl
theorem Div.set {w wr : World} {g gp cap n : Nat} {L : List Bool} (h : Div w wr g gp cap n L) (m : Nat) (b : Bool) : Div w (wr.setCell ⟨g, m, none⟩ (.bool b)) g gp cap n (L.set m b) := by
  refine ⟨?_, h.pow.far (fun e => h.ne e) _, h.only.setCell h.base _, h.ne⟩
  have := (h.row.stored m (.bool b)).1
  rwa [show (bs L).set m (.bool b) = bs (L.set m b) by simp [bs]] at this

def Rested (w : World) (N : Nat) (o : List Bool) (e : Ending) (w' : World) : Prop :=
  ∃ g c, e = .returned (.slice (some ⟨g, N, none⟩) 32 c) ∧ (∀ j b, j < 32 → (divs o N)[N + j]? = some b → w'.cell? ⟨g, N + j, none⟩ = some (.bool b)) ∧ Only (w.heap.size ≤ ·) w w'

set_option maxRecDepth 100000 in
set_option maxHeartbeats 1600000 in
theorem rest_c (w : World) (B : Nat) (v : Value) (N : Nat) (o : List Bool) (hl : w.ownsRow B 4 1 v (N + 32) (bs (divs o 0))) (ho : o.length = N + 32) (hN : N ≤ 1048576) :
    Calls Tryz.prog 106 #[v] w (Rested w N o) := by
  obtain ⟨i0, hi0, hz0, hz1, hz2⟩ := info_parts info4
  have HI := Lib.hid (And.intro hi0 (And.intro hz0 (And.intro hz1 hz2)))
  clear hi0 hz0 hz1 hz2
  obtain ⟨gl, cl, rfl, hB, hlt⟩ := hl.form (by omega)
  have HC : Hid (∀ j u, (bs (divs o 0))[j]? = some u → ((w.alloc (.cells pcells.toArray 3)).alloc (.cells #[] 4)).cell? ((⟨gl, 0, none⟩ : Addr).add j) = some u) := by
    intro j u hu
    rw [World.cell?_alloc_lt _ _ _ (by rw [add_block']; simp; omega), World.cell?_alloc_lt _ _ _ (by rw [add_block']; exact hlt)]
    exact hl.cells (g := gl) rfl j u hu
  have HL := Lib.hid hl.1
  clear hl
  have HW : Hid (((w.alloc (.cells pcells.toArray 3)).alloc (.cells #[] 4)).ownsRow w.heap.size 4 1 (.slice (some ⟨w.heap.size + 1, 0, none⟩) 0 0) 0 []) := by
    have h := World.ownsRow_made (size := 1) (base := w.heap.size) (e := 4) (w.alloc (.cells pcells.toArray 3)) #[] 0 (by simp) (by simp [maxLen]) (by simp)
    rwa [show (w.alloc (.cells pcells.toArray 3)).heap.size = w.heap.size + 1 by simp] at h
  have HZ : Hid (w.heap.size ≤ ((w.alloc (.cells pcells.toArray 3)).alloc (.cells #[] 4)).heap.size) := by
    show _ ≤ _
    simp
    omega
  obtain ⟨n, hn⟩ : ∃ n, n = N + 32 := ⟨_, rfl⟩
  rw [← hn] at HL ho ⊢
  have hnb : n ≤ 1048608 := by omega
  have Hn := Lib.hid hn
  clear hB hn
  go_enter Tryz.func106, Tryz.ntmps106
  go_wp2_with (at_builtin; refine wpList_append_own _ rfl (.tmp 9) (.tmp 10) 42 rfl w.heap.size 4 i0 _ 1 1 Tryz.underlying42 HI.out.1 HI.out.2.1 HI.out.2.2.1 HI.out.2.2.2 (by rfl) (by omega) _ 0 _ rfl HW.out ⟨gl, 0, none⟩ n cl (bs (divs o 0)) rfl HL.out HC.out (bs_one _) (by simp only [maxLen]; omega) (by omega) HZ.out ?_; intro v' w1 ho' hg' _)
  have HO : Hid (Only (w.heap.size ≤ ·) w w1) := (((Only.refl _ w).alloc (fun _ h => h) _).alloc (fun _ h => h) _).grown hg' (fun _ h => h) (fun k hk => by injection hk with hk; show _ ≤ _; rw [← hk]; simp)
  have HP : Hid (Blk w1 w.heap.size 3 pcells) := by
    have h1 : Blk ((w.alloc (.cells pcells.toArray 3)).alloc (.cells #[] 4)) w.heap.size 3 pcells := (Blk.new w 3 pcells).alloc _
    refine (hg'.block w.heap.size (by simp; omega) ?_).trans h1
    intro e
    have e' : some w.heap.size = some (w.heap.size + 1) := e
    injection e' with e'
    omega
  rw [Nat.zero_add, List.nil_append] at ho'
  have Hn0 : 0 < n := by have := Hn.out; omega
  obtain ⟨g, cap, rfl, hg1, hg2⟩ := ho'.form Hn0
  have HD : Hid (Div w w1 g w.heap.size cap n (divs o 0)) := by
    refine ⟨ho', HP.out, HO.out, ?_⟩
    rintro rfl
    rcases ho'.2 with ⟨h, _⟩ | ⟨g', cap', cur, h, _, hg, _⟩
    · cases h
    · injection h with h _ _
      injection h with h
      injection h with h
      have h1 := HP.out
      unfold Blk at h1
      rw [h, hg] at h1
      injection h1 with h1
      injection h1 with _ h1
      exact absurd h1 (by decide)
  obtain ⟨gp, hgp⟩ : ∃ gp, gp = w.heap.size := ⟨_, rfl⟩
  rw [← hgp] at HD ⊢
  clear HO HP ho' hg' hg1 hg2 hgp HC HW HZ HI HL
  go_loopw [5] (fun i wr => ∃ k : Nat, k ≤ N ∧ i = .int .i64 k ∧ Div w wr g gp cap n (divs o k)) (fun i _ => N - (intOf i).toNat)
  case atStart => exact ⟨0, Nat.zero_le _, rfl, HD.out⟩
  case round =>
    clear HD
    obtain ⟨i, hi, rfl, hd⟩ := hrel
    have HD := Lib.hid hd
    clear hd
    have HLn : Hid ((divs o i).length = n) := by
      show _ = _
      have := Hn.out
      rw [divs_length _ _ (by omega), ho]
    by_cases hlt : i < N
    · have i1 : (i : Int) + 32 < (n : Int) := by have := Hn.out; omega
      have i2 : (i : Int) < (n : Int) := by omega
      obtain ⟨b, hb⟩ : ∃ b, o[i]? = some b := ⟨_, List.getElem?_eq_getElem (by have := Hn.out; omega)⟩
      have hc1 := HD.out.cell HLn.out i _ (divs_head o i b hb)
      have hf1 := HD.out.row.frozenAt i
      obtain ⟨top, htop⟩ : ∃ top, top = (b ^^ (inj M32 (o.take i)).testBit 0) := ⟨_, rfl⟩
      rw [← htop] at hc1
      have HK := Lib.hid (divs_keep o i b hb)
      have HT := Lib.hid (divs_turn o i b hb)
      rw [← htop] at HK HT
      clear htop hb b
      cases top with
      | false =>
        go_wp2
        refine ⟨⟨i + 1, by omega, by go_num, by rw [HK.out rfl]; exact HD.out⟩, ?_⟩
        simp [intOf]
        omega
      | true =>
        have HT2 := Lib.hid (HT.out rfl)
        clear HT HK
        go_wp2
        have HD2 := Lib.hid (HD.out.set i false)
        have HLn2 : Hid (((divs o i).set i false).length = n) := by show _ = _; rw [List.length_set]; exact HLn.out
        obtain ⟨L, hL⟩ : ∃ L, L = (divs o i).set i false := ⟨_, rfl⟩
        rw [← hL] at HD2 HT2 HLn2
        obtain ⟨ws, hws⟩ : ∃ ws, ws = wr.setCell ⟨g, i, none⟩ (.bool false) := ⟨_, rfl⟩
        rw [← hws] at HD2 ⊢
        clear hL hws HLn HD hc1 hf1
        go_loopw [6] (fun k wr' => ∃ t : Nat, t ≤ 17 ∧ k = .int .i64 t ∧ Div w wr' g gp cap n (flips L i (pows.take t))) (fun k _ => 17 - (intOf k).toNat)
        case atStart => exact ⟨0, by omega, rfl, HD2.out⟩
        case round =>
          clear HD2
          obtain ⟨t, ht, rfl, hd⟩ := hrel
          have HD := Lib.hid hd
          clear hd
          by_cases htl : t < 17
          · have t1 : (t : Int) < 17 := by omega
            obtain ⟨p, hp⟩ : ∃ p, pows[t]? = some p := ⟨_, List.getElem?_eq_getElem (by simpa [pows] using htl)⟩
            have hp31 := pows_le p (List.mem_of_getElem? hp)
            have hcp : wr.cell? ⟨gp, t, none⟩ = some (.int .i64 (p : Nat)) := by
              rw [HD.out.pow.cell, pcells_eq, List.getElem?_map, hp]
              rfl
            obtain ⟨m, hm⟩ : ∃ m, m = i + 32 - p := ⟨_, rfl⟩
            have HS := Lib.hid (flips_snoc L i t p hp)
            rw [← hm] at HS
            have HLf : Hid ((flips L i (pows.take t)).length = n) := by show _ = _; rw [flips_length]; exact HLn2.out
            have hmn : m < n := by have := Hn.out; omega
            have hmi : (i : Int) + 32 - (p : Int) = (m : Int) := by omega
            have m1 : (m : Int) < (n : Int) := by omega
            obtain ⟨b, hb⟩ : ∃ b, (flips L i (pows.take t))[m]? = some b := ⟨_, List.getElem?_eq_getElem (by have := HLf.out; omega)⟩
            have hcm := HD.out.cell HLf.out m b hb
            have hfm := HD.out.row.frozenAt m
            have HD3 := Lib.hid (HD.out.set m (!b))
            have HE : Hid ((flips L i (pows.take t)).set m (!b) = flips L i (pows.take (t + 1))) := by
              show _ = _
              rw [HS.out]
              unfold flip1
              rw [hb]
              rfl
            rw [HE.out] at HD3
            clear hm hp hb HS HE HLf
            go_wp2
            refine ⟨⟨t + 1, by omega, by go_num, HD3.out⟩, ?_⟩
            simp [intOf]
            omega
          · obtain rfl : t = 17 := by omega
            have e : pows.take 17 = pows := rfl
            rw [e, HT2.out] at HD
            go_wp2
            refine ⟨⟨i + 1, by omega, by go_num, HD.out⟩, ?_⟩
            simp [intOf]
            omega
    · obtain rfl : i = N := by omega
      have i1 : ¬ ((i : Int) + 32 < (n : Int)) := by have := Hn.out; omega
      have HF : Hid (∀ j b, j < 32 → (divs o i)[i + j]? = some b → wr.cell? ⟨g, i + j, none⟩ = some (.bool b)) := fun j b _ hb => HD.out.cell HLn.out _ _ hb
      by_cases h32 : i = 0
      · subst h32
        obtain rfl : n = 32 := Hn.out
        go_wp2
        go_ret
        exact ⟨g, cap, rfl, HF.out, HD.out.only⟩
      · have i2 : (32 : Int) < (n : Int) := by have := Hn.out; omega
        have hcap : ¬ (cap = n - 32) := by
          have := Hn.out
          rcases HD.out.row.2 with ⟨h, _⟩ | ⟨g', cap', cur, h, _, _, hc, _⟩
          · cases h
          · injection h with _ _ h
            omega
        go_wp2
        go_ret
        have e1 : n - 32 = i := by have := Hn.out; omega
        have e2 : n - (n - 32) = 32 := by have := Hn.out; omega
        refine ⟨g, cap - i, ?_, HF.out, HD.out.only⟩
        show Ending.returned (.slice (some ⟨g, n - 32, none⟩) (n - (n - 32)) (cap - (n - 32))) = _
        rw [e2, e1]
end Go.Proofs.YtbpldkhgiddmlaaGreatDoor

/-
  The document's own sum.
-/
set_option linter.unusedVariables false
namespace Go.Proofs.YtbpldkhgiddmlaaGreatDoor
open Go.RowKit

def turn (k : Nat) (o : List Bool) : List Bool := o.mapIdx fun j b => b ^^ decide (j < k)
theorem turn_get (k : Nat) (o : List Bool) (j : Nat) : (turn k o)[j]? = o[j]?.map fun b => b ^^ decide (j < k) := by simp [turn, List.getElem?_mapIdx]
theorem turn_length (k : Nat) (o : List Bool) : (turn k o).length = o.length := by simp [turn]
theorem turn_zero (o : List Bool) : turn 0 o = o := by
  apply List.ext_getElem?
  intro j
  rw [turn_get]
  simp
theorem turn_set (k : Nat) (o : List Bool) (b : Bool) (h : (turn k o)[k]? = some b) : (turn k o).set k (!b) = turn (k + 1) o := by
  apply List.ext_getElem?
  intro j
  rw [List.getElem?_set]
  by_cases e : k = j
  · subst e
    have hl := (List.getElem?_eq_some_iff.1 h).1
    rw [if_pos rfl, if_pos hl, turn_get]
    rw [turn_get] at h
    cases ho : o[k]? with
    | none => rw [ho] at h; cases h
    | some u =>
      rw [ho] at h
      simp at h
      simp [h]
  · rw [if_neg e, turn_get, turn_get]
    congr 1
    funext u
    congr 1
    simp only [decide_eq_decide]
    omega
theorem turn_end32 (o : List Bool) : turn 32 o = divs o 0 := by
  rw [divs_zero]
  apply List.ext_getElem?
  intro j
  rw [turn_get, regX_get]
  congr 1
  funext u
  rw [M32_get]

theorem orig_snoc (xs : Bytes) (k : Nat) : bitsOf xs ++ List.replicate (k + 1) false = (bitsOf xs ++ List.replicate k false) ++ [false] := by
  rw [List.replicate_succ', List.append_assoc]

/-- The document's sum, as a call's end. -/
def Summed (w : World) (xs : Bytes) (e : Ending) (w' : World) : Prop := e = .returned (.int .u32 (sum xs : Nat)) ∧ Only (w.heap.size ≤ ·) w w'

set_option maxRecDepth 100000 in
set_option maxHeartbeats 1600000 in
theorem refOf_c (w : World) (A : Option Addr) (n c : Nat) (xs : Bytes) (ht : Txt w A n xs) (hn : n ≤ 65536) :
    Calls Tryz.prog 91 #[.slice A n c] w (Summed w xs) := by
  obtain ⟨i0, hi0, hz0, hz1, hz2⟩ := info_parts info4
  have HI := Lib.hid (And.intro hi0 (And.intro hz0 (And.intro hz1 hz2)))
  clear hi0 hz0 hz1 hz2
  have HBl : Hid ((bitsOf xs).length = 8 * n) := by show _ = _; rw [bitsOf_length, ht.1]
  have Hxl : Hid (xs.length = n) := ht.1
  have HT := Lib.hid ht
  clear ht
  go_enter Tryz.func91, Tryz.ntmps91
  go_wp2_with (go_at_call 105; refine (bits_c _ A n c xs HT.out hn).mono ?_; rintro e w1 ⟨v, rfl, hr⟩; have HR := Lib.hid hr; clear hr)
  go_loopw [4, 3] (fun i v wr => ∃ k : Nat, k ≤ 32 ∧ i = .int .i64 k ∧ RowB w wr v (bitsOf xs ++ List.replicate k false)) (fun i _ _ => 32 - (intOf i).toNat)
  case atStart => exact ⟨0, by omega, rfl, by simpa using HR.out⟩
  case round =>
    clear HR
    obtain ⟨k, hk, rfl, hr⟩ := hrel
    have HR := Lib.hid hr
    clear hr
    by_cases hlt : k < 32
    · have k1 : (k : Int) < 32 := by omega
      have HL : Hid ((bitsOf xs ++ List.replicate k false).length ≤ 524320) := by
        have := HBl.out
        show _ ≤ _
        rw [List.length_append, List.length_replicate]
        omega
      have HZ : Hid (w.heap.size ≤ (wr.alloc (.cells #[.bool false] 4)).heap.size) := by
        have := HR.out.2.size
        show _ ≤ _
        simp
        omega
      go_wp2_with (at_builtin; refine wpList_append_own _ rfl (.tmp 14) (.tmp 15) 42 rfl w.heap.size 4 i0 _ 1 1 Tryz.underlying42 HI.out.1 HI.out.2.1 HI.out.2.2.1 HI.out.2.2.2 (by rfl) (by omega) _ _ _ rfl (HR.out.1.alloc _) ⟨wr.heap.size, 0, none⟩ 1 1 [.bool false] rfl (by rfl) (one_cell wr 4 _) (by simp [Value.oneCell']) (by have := HL.out; simp only [maxLen]; omega) (by have := HL.out; omega) HZ.out ?_; intro v' w' ho' hg' _)
      have HN : Hid (RowB w w' v' (bitsOf xs ++ List.replicate (k + 1) false)) := by
        show RowB _ _ _ _
        rw [orig_snoc]
        exact HR.out.grown ((Only.refl _ wr).alloc (fun _ h => Nat.le_trans HR.out.2.size h) _) (M := [false]) ho' (by simp) hg'
      refine ⟨⟨k + 1, by omega, by go_num, HN.out⟩, ?_⟩
      simp [intOf]
      omega
    · obtain rfl : k = 32 := by omega
      have HOl : Hid ((orig xs).length = 8 * n + 32) := by show _ = _; rw [orig_length, Hxl.out]
      have HR2 : Hid (RowB w wr u3 (orig xs)) := HR.out
      clear HR
      have hrow := HR2.out.1
      rw [HOl.out] at hrow
      obtain ⟨g, cap, rfl, hg1, hg2⟩ := hrow.form (by omega)
      have HD : Hid (wr.ownsRow w.heap.size 4 1 (.slice (some ⟨g, 0, none⟩) (8 * n + 32) cap) (8 * n + 32) (bs (turn 0 (orig xs))) ∧ Only (w.heap.size ≤ ·) w wr) := by
        rw [turn_zero]
        exact ⟨hrow, HR2.out.2⟩
      obtain ⟨N, hN⟩ : ∃ N, N = 8 * n + 32 := ⟨_, rfl⟩
      rw [← hN] at HOl HD ⊢
      have HN := Lib.hid hN
      have hNb : N ≤ 524320 := by omega
      have hNb2 : 32 ≤ N := by omega
      clear hrow HR2 hN
      go_wp2
      go_loopw [5] (fun i wr => ∃ k : Nat, k ≤ 32 ∧ i = .int .i64 k ∧ (wr.ownsRow w.heap.size 4 1 (.slice (some ⟨g, 0, none⟩) N cap) N (bs (turn k (orig xs))) ∧ Only (w.heap.size ≤ ·) w wr)) (fun i _ => 32 - (intOf i).toNat)
      case atStart => exact ⟨0, by omega, rfl, HD.out⟩
      case round =>
        clear HD
        obtain ⟨k, hk, rfl, hd⟩ := hrel
        have HD := Lib.hid hd
        clear hd
        by_cases hlt : k < 32
        · have k1 : (k : Int) < 32 := by omega
          have k2 : (k : Int) < (N : Int) := by omega
          obtain ⟨b, hb⟩ : ∃ b, (turn k (orig xs))[k]? = some b := ⟨_, List.getElem?_eq_getElem (by rw [turn_length]; have := HOl.out; omega)⟩
          have hc1 : wr.cell? ⟨g, k, none⟩ = some (.bool b) := by
            rw [HD.out.1.cellAt k (by omega), bs_get, hb]
            rfl
          have hf1 := HD.out.1.frozenAt k
          have HE := Lib.hid (turn_set k (orig xs) b hb)
          have HD2 : Hid ((wr.setCell ⟨g, k, none⟩ (.bool (!b))).ownsRow w.heap.size 4 1 (.slice (some ⟨g, 0, none⟩) N cap) N (bs (turn (k + 1) (orig xs))) ∧ Only (w.heap.size ≤ ·) w (wr.setCell ⟨g, k, none⟩ (.bool (!b)))) := by
            have h := (HD.out.1.stored k (.bool (!b))).1
            rw [show (bs (turn k (orig xs))).set k (.bool (!b)) = bs ((turn k (orig xs)).set k (!b)) by simp [bs], HE.out] at h
            exact ⟨h, HD.out.2.setCell hg1 _⟩
          clear hb HE
          go_wp2
          refine ⟨⟨k + 1, by omega, by go_num, HD2.out⟩, ?_⟩
          simp [intOf]
          omega
        · obtain rfl : k = 32 := by omega
          have HD2 : Hid (wr.ownsRow w.heap.size 4 1 (.slice (some ⟨g, 0, none⟩) (8 * n + 32) cap) (8 * n + 32) (bs (divs (orig xs) 0))) := by
            rw [← turn_end32, ← HN.out]
            exact HD.out.1
          have HOO := Lib.hid HD.out.2
          have HOl2 : Hid ((orig xs).length = 8 * n + 32) := by have := HOl.out; rw [HN.out] at this; exact this
          have Hend : Hid (∀ j, j < 32 → (divs (orig xs) (8 * n))[8 * n + j]? = some ((run M32 xs).testBit j)) := by
            intro j hj
            have := divs_end xs j hj
            rw [Hxl.out] at this
            exact this
          have HEN : Hid (Value.slice (some ⟨g, 0, none⟩) N cap = .slice (some ⟨g, 0, none⟩) (8 * n + 32) cap) := by show _ = _; rw [HN.out]
          go_wp2_with (go_at_call 106; rw [HEN.out]; refine (rest_c _ w.heap.size _ (8 * n) (orig xs) HD2.out HOl2.out (by omega)).mono ?_; rintro e w2 ⟨g2, c2, rfl, hcells, ho2⟩; have HC := Lib.hid hcells; have HO2 := Lib.hid ho2; clear hcells ho2)
          obtain ⟨C, hCe⟩ : ∃ C, C = run M32 xs := ⟨_, rfl⟩
          rw [← hCe] at Hend
          have HCe : Hid (sum xs = C ^^^ M32) := by
            show _ = _
            rw [hCe]
            unfold sum upd
            rw [Nat.zero_xor]
          have hCl : C ^^^ M32 < 4294967296 := by rw [hCe]; exact xor_lt (run_lt M32_lt _) M32_lt
          obtain ⟨D, hD⟩ : ∃ D, D = C ^^^ M32 := ⟨_, rfl⟩
          have Hte : Hid (∀ k, k < 32 → D / 2 ^ k = 2 * (D / 2 ^ (k + 1)) + (if C.testBit k then 0 else 1)) := by
            intro k hk
            rw [hD]
            exact turn_end k hk
          rw [← hD] at HCe hCl
          have HOE : Hid (Only (w.heap.size ≤ ·) w w2) := HOO.out.trans (HO2.out.mono fun k h => Nat.le_trans HOO.out.size h)
          clear hCe hD HOO HO2 HEN HD HD2 HN
          go_loop [7, 6] (fun i v => ∃ j : Nat, j ≤ 32 ∧ i = .int .i64 ((j : Int) - 1) ∧ v = .int .u32 (D / 2 ^ j : Nat)) (fun i _ => (intOf i + 1).toNat)
          case atStart => exact ⟨32, by omega, rfl, by rw [Nat.div_eq_of_lt (by omega)]; rfl⟩
          case round =>
            obtain ⟨j, hj, rfl, rfl⟩ := hrel
            cases j with
            | zero =>
              have e0 : ((0 : Nat) : Int) - 1 = -1 := rfl
              rw [e0]
              rw [show D / 2 ^ 0 = D by simp]
              go_wp2
              go_ret
              exact ⟨by rw [HCe.out]; rfl, HOE.out⟩
            | succ k =>
              have e0 : ((k + 1 : Nat) : Int) - 1 = (k : Int) := by omega
              rw [e0]
              have hk : k < 32 := by omega
              have k0 : (0 : Int) ≤ (k : Int) := by omega
              have k1 : (k : Int) < 32 := by omega
              have hc1 := HC.out k _ hk (Hend.out k hk)
              have ht := Hte.out k hk
              have hz : D / 2 ^ (k + 1) < 2147483648 := by
                have : D / 2 ^ k < 4294967296 := Nat.lt_of_le_of_lt (Nat.div_le_self _ _) hCl
                omega
              obtain ⟨z, hze⟩ : ∃ z, z = D / 2 ^ (k + 1) := ⟨_, rfl⟩
              rw [← hze] at ht hz ⊢
              obtain ⟨b, hbe⟩ : ∃ b, b = C.testBit k := ⟨_, rfl⟩
              rw [← hbe] at hc1 ht
              clear hze hbe
              cases b with
              | true =>
                have Hz : Hid (D / 2 ^ k = 2 * z) := by show _ = _; simpa using ht
                clear ht
                go_wp2
                refine ⟨⟨k, by omega, rfl, ?_⟩, ?_⟩
                · rw [Hz.out]
                  congr 1
                  omega
                · simp [intOf]
              | false =>
                have Hz : Hid (D / 2 ^ k = 2 * z + 1) := by show _ = _; simpa using ht
                clear ht
                go_wp2
                refine ⟨⟨k, by omega, rfl, ?_⟩, ?_⟩
                · rw [Hz.out]
                  congr 1
                  omega
                · simp [intOf]
end Go.Proofs.YtbpldkhgiddmlaaGreatDoor

/-
  has, around.
-/
set_option linter.unusedVariables false
namespace Go.Proofs.YtbpldkhgiddmlaaGreatDoor
open Go.RowKit

def rm4 (n : Nat) (at_ : Int) : Bool := decide (0 ≤ at_ ∧ at_ + 4 ≤ (n : Int))

set_option maxRecDepth 100000 in
theorem crchas_c (w : World) (A : Option Addr) (n c : Nat) (hn : n ≤ 1152921504606846976) (at_ : Int) (h1 : -9223372036854775808 ≤ at_) (h2 : at_ ≤ 9223372036854775807) :
    Calls Tryz.prog 103 #[.slice A n c, .int .i64 at_] w fun e w' => e = .returned (.bool (rm4 n at_)) ∧ w = w' := by
  by_cases h0 : 0 ≤ at_
  · by_cases h4 : 4 ≤ (n : Int) - at_
    · have E : Hid (rm4 n at_ = true) := by show _ = _; simp only [rm4, decide_eq_true_eq]; omega
      go_enter Tryz.func103, Tryz.ntmps103
      go_wp2
      go_ret
      rw [E.out]
      exact ⟨rfl, rfl⟩
    · have E : Hid (rm4 n at_ = false) := by show _ = _; simp only [rm4, decide_eq_false_iff_not]; omega
      go_enter Tryz.func103, Tryz.ntmps103
      go_wp2
      go_ret
      rw [E.out]
      exact ⟨rfl, rfl⟩
  · have E : Hid (rm4 n at_ = false) := by show _ = _; simp only [rm4, decide_eq_false_iff_not]; omega
    go_enter Tryz.func103, Tryz.ntmps103
    go_wp2
    go_ret
    rw [E.out]
    exact ⟨rfl, rfl⟩

def oth (xs : Bytes) (a : Nat) : Bytes := xs.take a ++ xs.drop (a + 4)
def le4 (s : Nat) : Bytes := [UInt8.ofNat s, UInt8.ofNat (s / 256), UInt8.ofNat (s / 65536), UInt8.ofNat (s / 16777216)]
theorem le4_length (s : Nat) : (le4 s).length = 4 := rfl
def filled4 (s k : Nat) : List Value := cb ((le4 s).take k) ++ List.replicate (4 - k) (.int .u8 0)
theorem Txt.none (w : World) (A : Option Addr) : Txt w A 0 [] := ⟨rfl, fun h => absurd h (by decide)⟩

structure Arr4 (w wr : World) (g1 g2 : Nat) (s k : Nat) : Prop where
  out : Blk wr g1 156 (filled4 s 0)
  arr : Blk wr g2 156 (filled4 s k)
  only : Only (w.heap.size ≤ ·) w wr
  ne : g1 ≠ g2
  base1 : w.heap.size ≤ g1
  base2 : w.heap.size ≤ g2

theorem filled4_set (s k : Nat) (hk : k < 4) (v : Int) (hv : v = ((s / 256 ^ k : Nat) : Int) % 256) : (filled4 s k).set k (.int .u8 v) = filled4 s (k + 1) := by
  have h : k = 0 ∨ k = 1 ∨ k = 2 ∨ k = 3 := by omega
  subst hv
  rcases h with rfl | rfl | rfl | rfl
  · simp [filled4, cb, le4, List.replicate]
  · simp [filled4, cb, le4, List.replicate]
  · simp [filled4, cb, le4, List.replicate]
  · simp [filled4, cb, le4]
theorem Arr4.set {w wr : World} {g1 g2 s k : Nat} (h : Arr4 w wr g1 g2 s k) (hk : k < 4) (v : Int) (hv : v = ((s / 256 ^ k : Nat) : Int) % 256) : Arr4 w (wr.setCell ⟨g2, k, none⟩ (.int .u8 v)) g1 g2 s (k + 1) := by
  refine ⟨h.out.far h.ne _, ?_, h.only.setCell h.base2 _, h.ne, h.base1, h.base2⟩
  have := h.arr.set_ k (.int .u8 v)
  rwa [filled4_set s k hk v hv] at this
theorem filled4_end (s : Nat) : filled4 s 4 = cb (le4 s) := by simp [filled4, le4]

set_option maxRecDepth 100000 in
set_option maxHeartbeats 1600000 in
theorem around_c (w : World) (ad : Addr) (n c : Nat) (xs : Bytes) (ht : Txt w (some ad) n xs) (hn : n ≤ 1152921504606846976) (hc : n ≤ c) (hcm : c ≤ 9223372036854775807) (a : Nat) (ha : a + 4 ≤ n) :
    Calls Tryz.prog 104 #[.slice (some ad) n c, .int .i64 a] w fun e w' => e = .returned (.agg (cb (le4 (sum (oth xs a)))).toArray) ∧ Only (w.heap.size ≤ ·) w w' := by
  obtain ⟨W1, hW1⟩ : ∃ W1, W1 = w.alloc (.cells #[.int .u8 0, .int .u8 0, .int .u8 0, .int .u8 0] 156) := ⟨_, rfl⟩
  have HO1 : Hid (Only (w.heap.size ≤ ·) w W1) := by rw [hW1]; exact (Only.refl _ w).alloc (fun _ h => h) _
  have HB1 : Hid (Blk W1 w.heap.size 156 (filled4 (sum (oth xs a)) 0)) := by rw [hW1]; exact Blk.new w 156 _
  have HT1 : Hid (Txt W1 (some ad) a (xs.take a)) := (ht.take a (by omega)).later HO1.out
  have HT2 : Hid (Txt W1 (some (ad.add (a + 4))) (n - (a + 4)) (xs.drop (a + 4))) := (ht.drop (a + 4)).later HO1.out
  have HT3 : Hid (n = a + 4 → Txt W1 (some ad) 0 (xs.drop (a + 4))) := fun e => ⟨by rw [List.length_drop, ht.1]; omega, fun h => absurd h (by decide)⟩
  have HS : Hid (upd (sum (xs.take a)) (xs.drop (a + 4)) = sum (oth xs a)) := (upd_append 0 _ _).symm
  have HSl : Hid (sum (xs.take a) < 4294967296) := sum_lt _
  have HW1 := Lib.hid hW1
  clear hW1
  by_cases hcap : c = a + 4
  · obtain rfl : n = a + 4 := by omega
    subst hcap
    have HT3' := Lib.hid (HT3.out rfl)
    clear HT3
    have a0 : (0 : Int) ≤ (a : Int) := by omega
    have a1 : (a : Int) ≤ (a : Int) + 4 := by omega
    have a2 : (0 : Int) ≤ 4 := by omega
    have a4 : (a : Int) + 4 ≤ (a : Int) + 4 := by omega
    have a5 : (0 : Int) ≤ (a : Int) + 4 := by omega
    have aw : IntKind.i64.wrap ((a : Int) + 4) = (a : Int) + 4 := IntWalk.i64_in _ (by omega)
    have an : ((a : Int) + 4).toNat = a + 4 := by omega
    have hn1 : 0 ≤ 1152921504606846976 := by omega
    have hn2 : a ≤ 1152921504606846976 := by omega
    clear ht ha hc
    go_enter Tryz.func104, Tryz.ntmps104
    go_wp2_with (fail)
    rw [← HW1.out]
    go_region_held3 (fun w' => Only (W1.heap.size ≤ ·) W1 w') (first | assumption | exact (Only.refl _ W1).drew) (first | (go_at_call 116; refine (crcOf_c _ _ _ _ _ (HT1.out.later (by assumption)) hn2).mono ?_; rintro e w1 ⟨rfl, ho1⟩; have hO1 : Only (W1.heap.size ≤ ·) W1 w1 := Only.trans (by assumption) (ho1.mono fun k h => Nat.le_trans (Only.size (by assumption)) h)) | (go_at_call 115; refine (Update_c _ _ HSl.out _ _ _ _ (HT3'.out.later (by assumption)) (by omega)).mono ?_; rintro e w2 ⟨rfl, ho2⟩; have hO2 : Only (W1.heap.size ≤ ·) W1 w2 := Only.trans (by assumption) (ho2.mono fun k h => Nat.le_trans (Only.size (by assumption)) h)))
    have hsl : upd (sum (xs.take a)) (xs.drop (a + 4)) < 4294967296 := upd_lt HSl.out _
    obtain ⟨S, hS⟩ : ∃ S, S = upd (sum (xs.take a)) (xs.drop (a + 4)) := ⟨_, rfl⟩
    rw [← hS] at hsl HS ⊢
    have HA : Hid (Arr4 w (w2.alloc (.cells (filled4 S 0).toArray 156)) w.heap.size w2.heap.size S 0) := by
      have h := hO2.size
      have h1 := HO1.out.size
      have hsz : W1.heap.size = w.heap.size + 1 := by rw [HW1.out]; simp
      refine ⟨?_, Blk.new _ _ _, ((HO1.out.trans (hO2.mono fun k h => Nat.le_trans h1 h)).alloc (fun _ h => h) _), by omega, Nat.le_refl _, by omega⟩
      rw [← HS.out] at HB1
      exact (HB1.out.only hO2 (by omega)).alloc _
    clear hO2 HW1 ho1 ho2 hO1 a0 a1 a2 a4 a5 aw an hS
    go_wp2
    obtain ⟨g2, hg2⟩ : ∃ g2, g2 = w2.heap.size := ⟨_, rfl⟩
    rw [← hg2] at HA ⊢
    clear hg2
    go_loopw [17] (fun i wr => ∃ k : Nat, k ≤ 4 ∧ i = .int .i64 k ∧ Arr4 w wr w.heap.size g2 S k) (fun i _ => 4 - (intOf i).toNat)
    case atStart => exact ⟨0, by omega, rfl, HA.out⟩
    case round =>
      clear HA
      obtain ⟨k, hk, rfl, ha⟩ := hrel
      have HA := Lib.hid ha
      clear ha
      by_cases hlt : k < 4
      · have hk4 : k = 0 ∨ k = 1 ∨ k = 2 ∨ k = 3 := by omega
        rcases hk4 with rfl | rfl | rfl | rfl
        · have c1 := HA.out.arr.cell 0
          have f1 := HA.out.arr.frozen 0
          rw [show (filled4 S 0)[0]? = some (.int .u8 0) from rfl] at c1
          go_wp2
          exact ⟨⟨1, by omega, rfl, HA.out.set (by omega) _ (by simp)⟩, by simp [intOf]⟩
        · have c1 := HA.out.arr.cell 1
          have f1 := HA.out.arr.frozen 1
          rw [show (filled4 S 1)[1]? = some (.int .u8 0) from rfl] at c1
          go_wp2
          exact ⟨⟨2, by omega, rfl, HA.out.set (by omega) _ (by simp)⟩, by simp [intOf]⟩
        · have c1 := HA.out.arr.cell 2
          have f1 := HA.out.arr.frozen 2
          rw [show (filled4 S 2)[2]? = some (.int .u8 0) from rfl] at c1
          go_wp2
          exact ⟨⟨3, by omega, rfl, HA.out.set (by omega) _ (by simp)⟩, by simp [intOf]⟩
        · have c1 := HA.out.arr.cell 3
          have f1 := HA.out.arr.frozen 3
          rw [show (filled4 S 3)[3]? = some (.int .u8 0) from rfl] at c1
          go_wp2
          exact ⟨⟨4, by omega, rfl, HA.out.set (by omega) _ (by simp; omega)⟩, by simp [intOf]⟩
      · obtain rfl : k = 4 := by omega
        have HA4 : Hid (Blk wr g2 156 (cb (le4 S))) := by rw [← filled4_end]; exact HA.out.arr
        have HR : Hid (wr.rangeAt g2 0 (cb (le4 S))) := HA4.out.range 0 4
        have HTh : Hid (wr.there w.heap.size 0 (cb (le4 S)).toArray.size) := HA.out.out.there 0 4 (Nat.le_refl _)
        have H41 : Hid ((Tryz.prog.info? 156).map (·.size) = some (cb (le4 S)).toArray.size) := by
          show _ = some 4
          kernel_rfl
        have H1 : Hid ((cb (le4 S)).toArray.all (·.oneCell') = true) := all_oneCell_toArray (cb_one _)
        go_wp2_with (first | (with_reducible refine wpList_load_mid rfl 156 (.tmp 6) rfl g2 0 (by simp [Act.eval, Act.put]) (cb (le4 S)) _ HR.out Tryz.underlying156 rfl (by kernel_rfl) ?_) | (with_reducible refine wpList_store_mid rfl 156 (.tmp 4) (.tmp 28) rfl w.heap.size 0 (cb (le4 S)).toArray (by simp [Act.eval, Act.put]) (by simp [Act.eval, Act.put]) HTh.out H41.out H1.out ?_))
        have HB : Hid (Blk (wr.setCells w.heap.size 0 (cb (le4 S))) w.heap.size 156 (cb (le4 S))) := by
          have := HA.out.out.setN (cb (le4 S)) 0 (Nat.le_refl _)
          exact this
        have HO : Hid (Only (w.heap.size ≤ ·) w (wr.setCells w.heap.size 0 (cb (le4 S)))) := HA.out.only.setCells _ _ _ (Nat.le_refl _)
        have hl := run_loadVar_mid (P := Tryz.prog) (wr.setCells w.heap.size 0 (cb (le4 S))) w.heap.size 0 156 (cb (le4 S)) _ (HB.out.range 0 4) Tryz.underlying156 rfl (by kernel_rfl)
        exact bodyPost_ret (v := .agg (cb (le4 S)).toArray) (results_cell rfl rfl hl) rfl ⟨by rw [HS.out], HO.out⟩
  · have a0 : (0 : Int) ≤ (a : Int) := by omega
    have a1 : (a : Int) ≤ (n : Int) := by omega
    have a2 : (a : Int) ≤ (c : Int) := by omega
    have a4 : (a : Int) + 4 ≤ (n : Int) := by omega
    have a5 : (0 : Int) ≤ (a : Int) + 4 := by omega
    have aw : IntKind.i64.wrap ((a : Int) + 4) = (a : Int) + 4 := IntWalk.i64_in _ (by omega)
    have an : ((a : Int) + 4).toNat = a + 4 := by omega
    have hn1 : n - (a + 4) ≤ 1152921504606846976 := by omega
    have hn2 : a ≤ 1152921504606846976 := by omega
    clear ht ha hc
    go_enter Tryz.func104, Tryz.ntmps104
    go_wp2_with (fail)
    rw [← HW1.out]
    go_region_held3 (fun w' => Only (W1.heap.size ≤ ·) W1 w') (first | assumption | exact (Only.refl _ W1).drew) (first | (go_at_call 116; refine (crcOf_c _ _ _ _ _ (HT1.out.later (by assumption)) hn2).mono ?_; rintro e w1 ⟨rfl, ho1⟩; have hO1 : Only (W1.heap.size ≤ ·) W1 w1 := Only.trans (by assumption) (ho1.mono fun k h => Nat.le_trans (Only.size (by assumption)) h)) | (go_at_call 115; refine (Update_c _ _ HSl.out _ _ _ _ (HT2.out.later (by assumption)) hn1).mono ?_; rintro e w2 ⟨rfl, ho2⟩; have hO2 : Only (W1.heap.size ≤ ·) W1 w2 := Only.trans (by assumption) (ho2.mono fun k h => Nat.le_trans (Only.size (by assumption)) h)))
    have hsl : upd (sum (xs.take a)) (xs.drop (a + 4)) < 4294967296 := upd_lt HSl.out _
    obtain ⟨S, hS⟩ : ∃ S, S = upd (sum (xs.take a)) (xs.drop (a + 4)) := ⟨_, rfl⟩
    rw [← hS] at hsl HS ⊢
    have HA : Hid (Arr4 w (w2.alloc (.cells (filled4 S 0).toArray 156)) w.heap.size w2.heap.size S 0) := by
      have h := hO2.size
      have h1 := HO1.out.size
      have hsz : W1.heap.size = w.heap.size + 1 := by rw [HW1.out]; simp
      refine ⟨?_, Blk.new _ _ _, ((HO1.out.trans (hO2.mono fun k h => Nat.le_trans h1 h)).alloc (fun _ h => h) _), by omega, Nat.le_refl _, by omega⟩
      rw [← HS.out] at HB1
      exact (HB1.out.only hO2 (by omega)).alloc _
    clear hO2 HW1 ho1 ho2 hO1 a0 a1 a2 a4 a5 aw an hS
    go_wp2
    obtain ⟨g2, hg2⟩ : ∃ g2, g2 = w2.heap.size := ⟨_, rfl⟩
    rw [← hg2] at HA ⊢
    clear hg2
    go_loopw [17] (fun i wr => ∃ k : Nat, k ≤ 4 ∧ i = .int .i64 k ∧ Arr4 w wr w.heap.size g2 S k) (fun i _ => 4 - (intOf i).toNat)
    case atStart => exact ⟨0, by omega, rfl, HA.out⟩
    case round =>
      clear HA
      obtain ⟨k, hk, rfl, ha⟩ := hrel
      have HA := Lib.hid ha
      clear ha
      by_cases hlt : k < 4
      · have hk4 : k = 0 ∨ k = 1 ∨ k = 2 ∨ k = 3 := by omega
        rcases hk4 with rfl | rfl | rfl | rfl
        · have c1 := HA.out.arr.cell 0
          have f1 := HA.out.arr.frozen 0
          rw [show (filled4 S 0)[0]? = some (.int .u8 0) from rfl] at c1
          go_wp2
          exact ⟨⟨1, by omega, rfl, HA.out.set (by omega) _ (by simp)⟩, by simp [intOf]⟩
        · have c1 := HA.out.arr.cell 1
          have f1 := HA.out.arr.frozen 1
          rw [show (filled4 S 1)[1]? = some (.int .u8 0) from rfl] at c1
          go_wp2
          exact ⟨⟨2, by omega, rfl, HA.out.set (by omega) _ (by simp)⟩, by simp [intOf]⟩
        · have c1 := HA.out.arr.cell 2
          have f1 := HA.out.arr.frozen 2
          rw [show (filled4 S 2)[2]? = some (.int .u8 0) from rfl] at c1
          go_wp2
          exact ⟨⟨3, by omega, rfl, HA.out.set (by omega) _ (by simp)⟩, by simp [intOf]⟩
        · have c1 := HA.out.arr.cell 3
          have f1 := HA.out.arr.frozen 3
          rw [show (filled4 S 3)[3]? = some (.int .u8 0) from rfl] at c1
          go_wp2
          exact ⟨⟨4, by omega, rfl, HA.out.set (by omega) _ (by simp; omega)⟩, by simp [intOf]⟩
      · obtain rfl : k = 4 := by omega
        have HA4 : Hid (Blk wr g2 156 (cb (le4 S))) := by rw [← filled4_end]; exact HA.out.arr
        have HR : Hid (wr.rangeAt g2 0 (cb (le4 S))) := HA4.out.range 0 4
        have HTh : Hid (wr.there w.heap.size 0 (cb (le4 S)).toArray.size) := HA.out.out.there 0 4 (Nat.le_refl _)
        have H41 : Hid ((Tryz.prog.info? 156).map (·.size) = some (cb (le4 S)).toArray.size) := by
          show _ = some 4
          kernel_rfl
        have H1 : Hid ((cb (le4 S)).toArray.all (·.oneCell') = true) := all_oneCell_toArray (cb_one _)
        go_wp2_with (first | (with_reducible refine wpList_load_mid rfl 156 (.tmp 6) rfl g2 0 (by simp [Act.eval, Act.put]) (cb (le4 S)) _ HR.out Tryz.underlying156 rfl (by kernel_rfl) ?_) | (with_reducible refine wpList_store_mid rfl 156 (.tmp 4) (.tmp 28) rfl w.heap.size 0 (cb (le4 S)).toArray (by simp [Act.eval, Act.put]) (by simp [Act.eval, Act.put]) HTh.out H41.out H1.out ?_))
        have HB : Hid (Blk (wr.setCells w.heap.size 0 (cb (le4 S))) w.heap.size 156 (cb (le4 S))) := by
          have := HA.out.out.setN (cb (le4 S)) 0 (Nat.le_refl _)
          exact this
        have HO : Hid (Only (w.heap.size ≤ ·) w (wr.setCells w.heap.size 0 (cb (le4 S)))) := HA.out.only.setCells _ _ _ (Nat.le_refl _)
        have hl := run_loadVar_mid (P := Tryz.prog) (wr.setCells w.heap.size 0 (cb (le4 S))) w.heap.size 0 156 (cb (le4 S)) _ (HB.out.range 0 4) Tryz.underlying156 rfl (by kernel_rfl)
        exact bodyPost_ret (v := .agg (cb (le4 S)).toArray) (results_cell rfl rfl hl) rfl ⟨by rw [HS.out], HO.out⟩
end Go.Proofs.YtbpldkhgiddmlaaGreatDoor

/-
  Seal.
-/
set_option linter.unusedVariables false
namespace Go.Proofs.YtbpldkhgiddmlaaGreatDoor
open Go.RowKit

theorem info5 : (Tryz.prog.info? 5).map (fun i => (i.zero, i.size, i.bytes)) = some (some z8, 1, 1) := by kernel_rfl
theorem size5 : (Tryz.prog.info? 5).map (·.size) = some 1 := by kernel_rfl

def put4 (xs : Bytes) (a : Nat) : Bytes := xs.take a ++ (le4 (sum (oth xs a)) ++ xs.drop (a + 4))
def sealB (xs : Bytes) (at_ : Int) : Bytes := if rm4 xs.length at_ then put4 xs at_.toNat else xs
theorem put4_length (xs : Bytes) (a : Nat) (h : a + 4 ≤ xs.length) : (put4 xs a).length = xs.length := by
  simp [put4, le4_length]
  omega
/-- A row of bytes that is the call's own. -/
def Byt (w0 wr : World) (v : Value) (n : Nat) (xs : Bytes) : Prop := xs.length = n ∧ wr.ownsRow w0.heap.size 5 1 v n (cb xs) ∧ Only (w0.heap.size ≤ ·) w0 wr

theorem splice_take (cur vs : List Value) (a n k : Nat) (hk : vs.length = k) (ha : a + k ≤ n) (hn : n ≤ cur.length) : (splice cur a vs).take n = (cur.take n).take a ++ (vs ++ (cur.take n).drop (a + k)) := by
  apply List.ext_getElem?
  intro i
  simp only [splice, List.getElem?_take, List.getElem?_append, List.getElem?_drop, List.length_take, hk]
  repeat' split
  all_goals first | rfl | omega | (congr 1; omega) | (rw [List.getElem?_eq_none (by omega)]) | (symm; rw [List.getElem?_eq_none (by omega)])
theorem there41 (w1 : World) (s : Nat) : (w1.alloc (.cells #[.int .u8 0, .int .u8 0, .int .u8 0, .int .u8 0] 156)).there w1.heap.size 0 (cb (le4 s)).toArray.size :=
  (Blk.new w1 156 [.int .u8 0, .int .u8 0, .int .u8 0, .int .u8 0]).there 0 4 (by decide)
theorem size41 (s : Nat) : (Tryz.prog.info? 156).map (·.size) = some (cb (le4 s)).toArray.size := by
  show _ = some 4
  kernel_rfl
theorem laid41 (w1 : World) (s : Nat) : Blk ((w1.alloc (.cells #[.int .u8 0, .int .u8 0, .int .u8 0, .int .u8 0] 156)).setCells w1.heap.size 0 (cb (le4 s))) w1.heap.size 156 (cb (le4 s)) :=
  (Blk.new w1 156 [.int .u8 0, .int .u8 0, .int .u8 0, .int .u8 0]).setN (cb (le4 s)) 0 (Nat.le_refl _)

set_option maxRecDepth 100000 in
set_option maxHeartbeats 1600000 in
theorem Seal_c (w : World) (A : Option Addr) (n c : Nat) (xs : Bytes) (ht : Txt w A n xs) (hA : A = none → n = 0 ∧ c = 0) (hn : n ≤ 1099511627776) (hc : n ≤ c) (hcm : c ≤ 9223372036854775807) (at_ : Int) (h1 : -9223372036854775808 ≤ at_) (h2 : at_ ≤ 9223372036854775807) :
    Calls Tryz.prog 89 #[.slice A n c, .int .i64 at_] w fun e w' => ∃ v, e = .returned v ∧ Byt w w' v n (sealB xs at_) := by
  obtain ⟨i0, hi0, hz0, hz1, hz2⟩ := info_parts info5
  have HI := Lib.hid (And.intro hi0 (And.intro hz0 (And.intro hz1 hz2)))
  clear hi0 hz0 hz1 hz2
  have Hlen : Hid ((cb xs).length = n * 1) := by show _ = _; rw [cb_length, ht.1, Nat.mul_one]
  have Hxl : Hid (xs.length = n) := ht.1
  have HC : Hid (∀ ad, A = some ad → ∀ j u, (cb xs)[j]? = some u → w.cell? (ad.add j) = some u) := by
    intro ad e j u hu
    have hj : j < (cb xs).length := (List.getElem?_eq_some_iff.1 hu).1
    rw [cb_length, ht.1] at hj
    obtain ⟨ad', e', hc⟩ := ht.2 (by omega)
    rw [e] at e'
    cases e'
    exact hc j u hu
  have HA := Lib.hid hA
  have HT := Lib.hid ht
  clear hA ht
  by_cases hr : rm4 n at_ = true
  · have E : Hid (sealB xs at_ = put4 xs at_.toNat) := by show _ = _; unfold sealB; rw [Hxl.out, if_pos hr]
    obtain ⟨a, rfl⟩ : ∃ a : Nat, at_ = (a : Int) := ⟨at_.toNat, by simp only [rm4, decide_eq_true_eq] at hr; omega⟩
    have ha : a + 4 ≤ n := by simp only [rm4, decide_eq_true_eq] at hr; omega
    obtain ⟨ad, rfl⟩ : ∃ ad, A = some ad := by
      cases A with
      | some ad => exact ⟨ad, rfl⟩
      | none => have := (HA.out rfl).1; omega
    go_enter Tryz.func89, Tryz.ntmps89
    go_wp2_with (first | (at_builtin; refine wpList_append_src _ rfl (.const (.slice none 0 0)) (.tmp 7) 22 rfl w.heap.size 5 i0 _ 1 1 Tryz.underlying22 HI.out.1 HI.out.2.1 HI.out.2.2.1 HI.out.2.2.2 (by rfl) (by omega) (.slice none 0 0) 0 [] rfl (World.ownsRow_nil _ _ _ _) (some ad) n c (cb xs) rfl HA.out Hlen.out HC.out (cb_one _) (by simp only [maxLen]; omega) (by omega) (Nat.le_refl _) ?_; intro v' w1 ho' hg'; have HW1 : Hid (Byt w w1 v' n xs) := ⟨Hxl.out, by simpa using ho', (Only.refl _ w).grown hg' (fun _ h => h) (fun g hg => by simp [Value.ownBlock] at hg)⟩; clear ho' hg') | (go_at_call 103; refine (crchas_c _ (some ad) n c (by omega) (a : Int) h1 h2).mono ?_; rintro e w2 ⟨rfl, rfl⟩) | (go_at_call 104; refine (around_c _ ad n c xs (HT.out.later HW1.out.2.2) (by omega) hc hcm a ha).mono ?_; rintro e w3 ⟨rfl, ho3⟩; have HO3 := Lib.hid ho3; clear ho3) | (with_reducible refine wpList_store_mid rfl 156 (.tmp 6) (.tmp 14) rfl w3.heap.size 0 (cb (le4 (sum (oth xs a)))).toArray (by simp [Act.eval]) (by simp [Act.eval]) (there41 w3 _) (size41 _) (all_oneCell_toArray (cb_one _)) ?_))
    obtain ⟨hxl, hrow, hon⟩ := HW1.out
    rcases hrow.2 with ⟨_, h0⟩ | ⟨g, cap, cur, rfl, hbg, hg, hnc, hcpm, hcs, htake⟩
    · omega
    have hgl : g < w1.heap.size := (Array.getElem?_eq_some_iff.1 hg).1
    obtain ⟨S, hS⟩ : ∃ S, S = sum (oth xs a) := ⟨_, rfl⟩
    rw [← hS]
    have HL := Lib.hid (laid41 w3 S)
    obtain ⟨wz, hwz⟩ : ∃ wz, wz = (w3.alloc (.cells #[.int .u8 0, .int .u8 0, .int .u8 0, .int .u8 0] 156)).setCells w3.heap.size 0 (cb (le4 S)) := ⟨_, rfl⟩
    have HBg : Hid (Blk wz g 5 cur.toList) := by
      rw [hwz]
      have h1 : Blk w1 g 5 cur.toList := by unfold Blk; rw [Array.toArray_toList]; exact hg
      have h3 := HO3.out.size
      exact Blk.farN (by omega) _ _ ((h1.only HO3.out (by omega)).alloc _)
    have HOz : Hid (Only (w.heap.size ≤ ·) w wz) := by
      rw [hwz]
      have h1 := hon.size
      have h3 := HO3.out.size
      exact ((hon.trans (HO3.out.mono fun k h => Nat.le_trans h1 h)).alloc (fun _ h => h) _).setCells _ _ _ (Nat.le_trans h1 h3)
    rw [← hwz] at HL ⊢
    obtain ⟨gs, hgs⟩ : ∃ gs, gs = w3.heap.size := ⟨_, rfl⟩
    rw [← hgs] at HL ⊢
    have HE2 : Hid (cb (put4 xs a) = (splice cur.toList a (cb (le4 S))).take n) := by
      show _ = _
      have hc1 : cur.toList.take n = cb xs := by rw [← htake, Nat.mul_one]
      have hll : (cb (le4 S)).length = 4 := by rw [cb_length, le4_length]
      have hcl : cur.toList.length = cap := by rw [Array.length_toList, hcs, Nat.mul_one]
      rw [splice_take cur.toList (cb (le4 S)) a n 4 hll ha (by omega), hc1]
      unfold put4
      rw [← hS, cb_append, cb_append]
      simp [cb, List.map_take, List.map_drop]
    have Hl4 : Hid ((cb (le4 S)).length = Nat.min 4 (n - a)) := by
      show _ = min 4 (n - a)
      rw [cb_length, le4_length, Nat.min_eq_left (by omega)]
    have Hpc : Hid (∀ j v, (cb (le4 S))[j]? = some v → wz.drew.cell? ((⟨gs, 0, none⟩ : Addr).add j) = some v) := by
      intro j v hv
      rw [Addr.add_mid, Nat.zero_add, HL.out.drew.cell]
      exact hv
    have hft : a + (cb (le4 S)).length ≤ cur.toList.length := by
      rw [cb_length, le4_length, Array.length_toList, hcs]
      omega
    have Hft := Lib.hid hft
    have Hcs : Hid (cur.size = cap * 1) := hcs
    have a0 : (0 : Int) ≤ (a : Int) := by omega
    have a1 : (a : Int) ≤ (n : Int) := by omega
    have a2 : (a : Int) ≤ (cap : Int) := by omega
    have a3 : ¬ (cap = a) := by omega
    have Hcpm := Lib.hid hcpm
    clear hS hwz hgs hgl HW1 htake hcs hg hft hcpm hrow hon HO3 w3 w1 hr
    go_wp2
    go_region_law (refine step_copy_splice (w := wz.drew) rfl (.tmp 17) (.tmp 18) 22 22 rfl 5 Tryz.underlying22 size5 (some ⟨g, a, none⟩) (some ⟨gs, 0, none⟩) (n - a) (cap - a) 4 4 (by simp [Act.eval, Act.put]) (by simp [Act.eval, Act.put]) g a _ 5 HBg.out.drew (cb (le4 S)) Hl4.out (fun _ => ⟨rfl, _, rfl, Hpc.out⟩) Hft.out (cb_one _) w.heap.size w (HOz.out.drew.toBelow fun _ h => h) hbg ?_; intro wf HBf hbf)
    have HBF := Lib.hid HBf
    have HOF := Lib.hid hbf
    clear HBf hbf
    go_wp2
    go_ret
    refine ⟨_, rfl, ?_⟩
    rw [E.out]
    refine ⟨by rw [Int.toNat_natCast, put4_length _ _ (by omega)]; exact hxl, ⟨by rw [cb_length, Int.toNat_natCast, put4_length _ _ (by omega)]; omega, .inr ⟨g, cap, _, rfl, hbg, HBF.out, hnc, Hcpm.out, ?_, ?_⟩⟩, Only.below HOF.out⟩
    · have := Hft.out
      have h2 := Hcs.out
      simp [splice] at this ⊢
      omega
    · rw [Int.toNat_natCast, HE2.out, Nat.mul_one]
  · have hr' : rm4 n at_ = false := by simpa using hr
    have E : Hid (sealB xs at_ = xs) := by show _ = _; unfold sealB; rw [Hxl.out, hr']; rfl
    clear hr
    go_enter Tryz.func89, Tryz.ntmps89
    go_wp2_with (first | (at_builtin; refine wpList_append_src _ rfl (.const (.slice none 0 0)) (.tmp 7) 22 rfl w.heap.size 5 i0 _ 1 1 Tryz.underlying22 HI.out.1 HI.out.2.1 HI.out.2.2.1 HI.out.2.2.2 (by rfl) (by omega) (.slice none 0 0) 0 [] rfl (World.ownsRow_nil _ _ _ _) A n c (cb xs) rfl HA.out Hlen.out HC.out (cb_one _) (by simp only [maxLen]; omega) (by omega) (Nat.le_refl _) ?_; intro v' w1 ho' hg'; have HW1 : Hid (Byt w w1 v' n xs) := ⟨Hxl.out, by simpa using ho', (Only.refl _ w).grown hg' (fun _ h => h) (fun g hg => by simp [Value.ownBlock] at hg)⟩; clear ho' hg') | (go_at_call 103; refine (crchas_c _ A n c (by omega) at_ h1 h2).mono ?_; rintro e w2 ⟨rfl, rfl⟩))
    go_ret
    refine ⟨_, rfl, ?_⟩
    rw [E.out]
    exact HW1.out
end Go.Proofs.YtbpldkhgiddmlaaGreatDoor

/-
  Arrays of four bytes, compared.
-/
set_option linter.unusedVariables false
namespace Go.Proofs.YtbpldkhgiddmlaaGreatDoor
open Go.RowKit

theorem eq41 (a b c d a' b' c' d' : Int) (w : World) : (Op.equalIn 10000 156 (.agg #[.int .u8 a, .int .u8 b, .int .u8 c, .int .u8 d]) (.agg #[.int .u8 a', .int .u8 b', .int .u8 c', .int .u8 d'])).run Tryz.prog w = .ok (a == a' && (b == b' && (c == c' && d == d'))) w := by
  have u5 := Tryz.underlying5
  have a5 := Tryz.isAgg5
  have z5 := Tryz.sizeOf5
  rw [show (10000 : Nat) = 9999 + 1 from rfl, Op.equalIn]
  simp only [Sem.run_bind, run_underlying Tryz.underlying156, Result.andThen_ok]
  simp only [Std.Legacy.Range.forIn_eq_forIn_range', Std.Legacy.Range.size, Nat.sub_zero, Nat.add_sub_cancel, Nat.div_one, List.range'_succ, List.range'_zero, List.forIn_cons, List.forIn_nil]
  go_simp
  by_cases h1 : a = a' <;> by_cases h2 : b = b' <;> by_cases h3 : c = c' <;> by_cases h4 : d = d' <;> simp [h1, h2, h3, h4]
end Go.Proofs.YtbpldkhgiddmlaaGreatDoor

/-
  Sealed; bytes.Equal.
-/
set_option linter.unusedVariables false
namespace Go.Proofs.YtbpldkhgiddmlaaGreatDoor
open Go.RowKit

def isSealed (xs : Bytes) (at_ : Int) : Bool := rm4 xs.length at_ && decide (le4 (sum (oth xs at_.toNat)) = (xs.drop at_.toNat).take 4)

theorem u8_beq (x y : UInt8) : (((y.toNat : Nat) : Int) == ((x.toNat : Nat) : Int)) = decide (y = x) := by
  by_cases h : y = x
  · subst h; simp
  · have : ¬ (((y.toNat : Nat) : Int) = ((x.toNat : Nat) : Int)) := fun e => h (UInt8.toNat_inj.1 (by exact_mod_cast e))
    simp [h, this]
theorem four_eq (y0 y1 y2 y3 x0 x1 x2 x3 : UInt8) : decide ([y0, y1, y2, y3] = [x0, x1, x2, x3]) = (((y0.toNat : Nat) : Int) == ((x0.toNat : Nat) : Int) && (((y1.toNat : Nat) : Int) == ((x1.toNat : Nat) : Int) && (((y2.toNat : Nat) : Int) == ((x2.toNat : Nat) : Int) && ((y3.toNat : Nat) : Int) == ((x3.toNat : Nat) : Int)))) := by
  rw [u8_beq, u8_beq, u8_beq, u8_beq]
  simp

set_option maxRecDepth 100000 in
set_option maxHeartbeats 1600000 in
theorem Sealed_c (w : World) (A : Option Addr) (n c : Nat) (xs : Bytes) (ht : Txt w A n xs) (hA : A = none → n = 0 ∧ c = 0) (hn : n ≤ 1099511627776) (hc : n ≤ c) (hcm : c ≤ 9223372036854775807) (at_ : Int) (h1 : -9223372036854775808 ≤ at_) (h2 : at_ ≤ 9223372036854775807) :
    Calls Tryz.prog 94 #[.slice A n c, .int .i64 at_] w fun e w' => e = .returned (.bool (isSealed xs at_)) ∧ Only (w.heap.size ≤ ·) w w' := by
  have hl := ht.1
  by_cases hr : rm4 n at_ = true
  · have E : Hid (isSealed xs at_ = decide (le4 (sum (oth xs at_.toNat)) = (xs.drop at_.toNat).take 4)) := by show _ = _; unfold isSealed; rw [hl, hr]; rfl
    obtain ⟨a, rfl⟩ : ∃ a : Nat, at_ = (a : Int) := ⟨at_.toNat, by simp only [rm4, decide_eq_true_eq] at hr; omega⟩
    have ha : a + 4 ≤ n := by simp only [rm4, decide_eq_true_eq] at hr; omega
    obtain ⟨ad, rfl⟩ : ∃ ad, A = some ad := by
      cases A with
      | some ad => exact ⟨ad, rfl⟩
      | none => have := (hA rfl).1; omega
    obtain ⟨ad', e, hcell⟩ := ht.2 (by omega)
    cases e
    have HT := Lib.hid ht
    obtain ⟨x0, h0⟩ : ∃ x, xs[a]? = some x := ⟨_, List.getElem?_eq_getElem (by omega)⟩
    obtain ⟨x1, h1'⟩ : ∃ x, xs[a + 1]? = some x := ⟨_, List.getElem?_eq_getElem (by omega)⟩
    obtain ⟨x2, h2'⟩ : ∃ x, xs[a + 2]? = some x := ⟨_, List.getElem?_eq_getElem (by omega)⟩
    obtain ⟨x3, h3'⟩ : ∃ x, xs[a + 3]? = some x := ⟨_, List.getElem?_eq_getElem (by omega)⟩
    have c0 : w.cell? (ad.add a) = some (.int .u8 (x0.toNat : Nat)) := hcell a _ (by simp [cb, h0])
    have c1 : w.cell? ⟨(ad.add a).block, (ad.add a).off + 1, none⟩ = some (.int .u8 (x1.toNat : Nat)) := by rw [show (⟨(ad.add a).block, (ad.add a).off + 1, none⟩ : Addr) = (ad.add a).add 1 from rfl, add_add]; exact hcell (a + 1) _ (by simp [cb, h1'])
    have c2 : w.cell? ⟨(ad.add a).block, (ad.add a).off + 2, none⟩ = some (.int .u8 (x2.toNat : Nat)) := by rw [show (⟨(ad.add a).block, (ad.add a).off + 2, none⟩ : Addr) = (ad.add a).add 2 from rfl, add_add]; exact hcell (a + 2) _ (by simp [cb, h2'])
    have c3 : w.cell? ⟨(ad.add a).block, (ad.add a).off + 3, none⟩ = some (.int .u8 (x3.toNat : Nat)) := by rw [show (⟨(ad.add a).block, (ad.add a).off + 3, none⟩ : Addr) = (ad.add a).add 3 from rfl, add_add]; exact hcell (a + 3) _ (by simp [cb, h3'])
    have a0 : (0 : Int) ≤ (a : Int) := by omega
    have a1 : (a : Int) ≤ (n : Int) := by omega
    have a2 : (a : Int) ≤ (c : Int) := by omega
    have a4 : (a : Int) + 4 ≤ (c : Int) := by omega
    have a5 : (0 : Int) ≤ (a : Int) + 4 := by omega
    have a6 : (a : Int) ≤ (a : Int) + 4 := by omega
    have aw : IntKind.i64.wrap ((a : Int) + 4) = (a : Int) + 4 := IntWalk.i64_in _ (by omega)
    have an : ((a : Int) + 4).toNat = a + 4 := by omega
    have a7 : ¬ (c = a) := by omega
    have HY : Hid (xs.drop a = x0 :: x1 :: x2 :: x3 :: xs.drop (a + 4)) := by
      show _ = _
      rw [List.drop_eq_getElem_cons (by omega), List.drop_eq_getElem_cons (by omega : a + 1 < _), List.drop_eq_getElem_cons (by omega : a + 1 + 1 < _), List.drop_eq_getElem_cons (by omega : a + 1 + 1 + 1 < _)]
      rw [List.getElem?_eq_getElem (by omega), Option.some.injEq] at h0 h1' h2' h3'
      rw [← h0, ← h1', ← h2', ← h3']
    clear hA ht hl hcell h0 h1' h2' h3'
    obtain ⟨y0, y1, y2, y3, hy⟩ : ∃ y0 y1 y2 y3, le4 (sum (oth xs a)) = [y0, y1, y2, y3] := ⟨_, _, _, _, rfl⟩
    have HYE := Lib.hid hy
    clear hy
    have hyes : ∀ W : World, Calls Tryz.prog 103 #[.slice (some ad) n c, .int .i64 a] W fun e w' => e = .returned (.bool true) ∧ W = w' := fun W => (crchas_c W (some ad) n c (by omega) a h1 h2).mono fun e w' ⟨h, h'⟩ => ⟨by rw [h, hr], h'⟩
    have haro : ∀ W : World, Only (w.heap.size ≤ ·) w W → Calls Tryz.prog 104 #[.slice (some ad) n c, .int .i64 a] W fun e w' => e = .returned (.agg #[.int .u8 (y0.toNat : Nat), .int .u8 (y1.toNat : Nat), .int .u8 (y2.toNat : Nat), .int .u8 (y3.toNat : Nat)]) ∧ Only (W.heap.size ≤ ·) W w' :=
      fun W hW => (around_c W ad n c xs (HT.out.later hW) (by omega) hc hcm a ha).mono fun e w' ⟨h, h'⟩ => ⟨by rw [h, HYE.out]; rfl, h'⟩
    have HYES := Lib.hid hyes
    have HARO := Lib.hid haro
    have HKEEP : Hid (∀ w2 : World, Only (w.heap.size ≤ ·) w w2 → w2.cell? (ad.add a) = some (.int .u8 (x0.toNat : Nat)) ∧ w2.cell? ⟨(ad.add a).block, (ad.add a).off + 1, none⟩ = some (.int .u8 (x1.toNat : Nat)) ∧ w2.cell? ⟨(ad.add a).block, (ad.add a).off + 2, none⟩ = some (.int .u8 (x2.toNat : Nat)) ∧ w2.cell? ⟨(ad.add a).block, (ad.add a).off + 3, none⟩ = some (.int .u8 (x3.toNat : Nat))) := by
      have hb := HT.out.block (by omega)
      have hb0 : ¬ (w.heap.size ≤ (ad.add a).block) := by rw [add_block']; omega
      intro w2 ho
      exact ⟨(ho.cell hb0).trans c0, (ho.cell (by exact hb0)).trans c1, (ho.cell (by exact hb0)).trans c2, (ho.cell (by exact hb0)).trans c3⟩
    have hap := fun W : World => run_arrayAt (P := Tryz.prog) (w := W) 156 5 4 (some (ad.add a)) 4 (c - a) Tryz.underlying156 (Nat.le_refl _)
    have heq := eq41 y0.toNat y1.toNat y2.toNat y3.toNat x0.toNat x1.toNat x2.toNat x3.toNat
    clear hyes haro c0 c1 c2 c3 hr
    go_enter Tryz.func94, Tryz.ntmps94
    go_wp2_with (fail)
    go_region_held3 (fun w' => Only (w.heap.size ≤ ·) w w' ∧ w'.cell? (ad.add a) = some (.int .u8 (x0.toNat : Nat)) ∧ w'.cell? ⟨(ad.add a).block, (ad.add a).off + 1, none⟩ = some (.int .u8 (x1.toNat : Nat)) ∧ w'.cell? ⟨(ad.add a).block, (ad.add a).off + 2, none⟩ = some (.int .u8 (x2.toNat : Nat)) ∧ w'.cell? ⟨(ad.add a).block, (ad.add a).off + 3, none⟩ = some (.int .u8 (x3.toNat : Nat))) (first | assumption | exact ⟨(Only.refl _ w).drew, HKEEP.out _ (Only.refl _ w).drew⟩ | exact ⟨hO3, HKEEP.out _ hO3⟩) (first | (go_at_call 103; refine (HYES.out _).mono ?_; rintro e w2 ⟨rfl, rfl⟩) | (go_at_call 104; refine (HARO.out _ (And.left (by assumption))).mono ?_; rintro e w3 ⟨rfl, ho3⟩; have hO3 : Only (w.heap.size ≤ ·) w w3 := Only.trans (And.left (by assumption)) (ho3.mono fun k h => Nat.le_trans (Only.size (And.left (by assumption))) h)))
    all_goals
      go_wp2
      go_ret
      refine ⟨?_, And.left (by assumption)⟩
      have E2 : isSealed xs (a : Int) = decide ([y0, y1, y2, y3] = [x0, x1, x2, x3]) := by
        rw [E.out, Int.toNat_natCast, HYE.out, HY.out]
        rfl
      rw [E2, four_eq]
      rfl
  · have hr' : rm4 n at_ = false := by simpa using hr
    have E : Hid (isSealed xs at_ = false) := by show _ = _; unfold isSealed; rw [hl, hr']; rfl
    have hno : ∀ W : World, Calls Tryz.prog 103 #[.slice A n c, .int .i64 at_] W fun e w' => e = .returned (.bool false) ∧ w' = W := fun W => (crchas_c W A n c (by omega) at_ h1 h2).mono fun e w' ⟨h, h'⟩ => ⟨by rw [h, hr'], h'.symm⟩
    have HNO := Lib.hid hno
    clear hr hr' hno hA ht hl
    go_enter Tryz.func94, Tryz.ntmps94
    go_wp2_with (fail)
    go_quiet ((go_at_call 103; exact Calls.quiet_of_same (HNO.out _)))
    go_wp2
    go_ret
    rw [E.out]
    exact ⟨rfl, (Only.refl _ w).drewN _⟩
end Go.Proofs.YtbpldkhgiddmlaaGreatDoor

/-
  The document's own Seal.
-/
set_option linter.unusedVariables false
namespace Go.Proofs.YtbpldkhgiddmlaaGreatDoor
open Go.RowKit

theorem put4_cells (cur : List Value) (xs : Bytes) (a n : Nat) (ha : a + 4 ≤ n) (hn : n ≤ cur.length) (hc : cur.take n = cb xs) :
    cb (put4 xs a) = (splice cur a (cb (le4 (sum (oth xs a))))).take n := by
  have hll : (cb (le4 (sum (oth xs a)))).length = 4 := by rw [cb_length, le4_length]
  rw [splice_take cur _ a n 4 hll ha hn, hc]
  unfold put4
  rw [cb_append, cb_append]
  simp [cb, List.map_take, List.map_drop]
theorem splice_set (cur vs : List Value) (a k : Nat) (v : Value) (hv : vs[k]? = some v) (ha : a + vs.length ≤ cur.length) : (splice cur a (vs.take k)).set (a + k) v = splice cur a (vs.take (k + 1)) := by
  have hk : k < vs.length := (List.getElem?_eq_some_iff.1 hv).1
  apply List.ext_getElem?
  intro i
  rw [List.getElem?_set]
  simp only [splice, List.getElem?_append, List.getElem?_take, List.getElem?_drop, List.length_take, List.length_append, List.length_drop]
  by_cases e : a + k = i
  · subst e
    have e1 : min a cur.length = a := by omega
    have e2 : min (k + 1) vs.length = k + 1 := by omega
    have e3 : min k vs.length = k := by omega
    rw [if_pos rfl, e1, e2, e3, if_pos (by omega), if_neg (by omega), if_pos (by omega), Nat.add_sub_cancel_left, if_pos (by omega), hv]
  · rw [if_neg e]
    repeat' split
    all_goals first | rfl | omega | (congr 1; omega)
theorem splice_nil (cur : List Value) (a : Nat) : splice cur a [] = cur := by simp [splice]
theorem emp (w : World) (B : Nat) (h : B ≤ w.heap.size) : (w.alloc (.cells #[] 5)).ownsRow B 5 1 (.slice (some ⟨w.heap.size, 0, none⟩) 0 0) 0 [] :=
  World.ownsRow_made (size := 1) (base := B) (e := 5) w #[] 0 h (by simp [maxLen]) (by simp)
theorem le4_cell (s k : Nat) (hk : k < 4) : (cb (le4 s))[k]? = some (.int .u8 (((s / 256 ^ k : Nat) : Int) % 256)) := by
  have h : k = 0 ∨ k = 1 ∨ k = 2 ∨ k = 3 := by omega
  rcases h with rfl | rfl | rfl | rfl <;> simp [cb, le4]

/-- In the midst of the loop. -/
def MidB (w wr : World) (g a : Nat) (cur : List Value) (s k : Nat) : Prop := Blk wr g 5 (splice cur a ((cb (le4 s)).take k)) ∧ Only (w.heap.size ≤ ·) w wr
theorem MidB.set {w wr : World} {g a s k : Nat} {cur : List Value} (h : MidB w wr g a cur s k) (hk : k < 4) (hg : w.heap.size ≤ g) (hl : a + 4 ≤ cur.length) (v : Int) (hv : v = ((s / 256 ^ k : Nat) : Int) % 256) : MidB w (wr.setCell ⟨g, a + k, none⟩ (.int .u8 v)) g a cur s (k + 1) := by
  refine ⟨?_, h.2.setCell hg _⟩
  have := h.1.set_ (a + k) (.int .u8 v)
  rwa [splice_set cur (cb (le4 s)) a k _ (by rw [hv]; exact le4_cell s k hk) (by rw [cb_length, le4_length]; exact hl)] at this
theorem MidB.cell {w wr : World} {g a s k : Nat} {cur : List Value} (h : MidB w wr g a cur s k) (hl : a + 4 ≤ cur.length) (hk : k < 4) : ∃ v, wr.cell? ⟨g, a + k, none⟩ = some v := by
  rw [h.1.cell]
  have hlen : (splice cur a ((cb (le4 s)).take k)).length = cur.length := by
    simp [splice, cb_length, le4_length]
    omega
  exact ⟨_, List.getElem?_eq_getElem (by omega)⟩

set_option maxRecDepth 100000 in
set_option maxHeartbeats 1600000 in
theorem refSeal_c (w : World) (A : Option Addr) (n c : Nat) (xs : Bytes) (ht : Txt w A n xs) (hA : A = none → n = 0 ∧ c = 0) (hn : n ≤ 65536) (hc : n ≤ c) (hcm : c ≤ 9223372036854775807) (at_ : Int) (h1 : -9223372036854775808 ≤ at_) (h2 : at_ ≤ 9223372036854775807) :
    Calls Tryz.prog 69 #[.slice A n c, .int .i64 at_] w fun e w' => ∃ v, e = .returned v ∧ Byt w w' v n (sealB xs at_) := by
  obtain ⟨i0, hi0, hz0, hz1, hz2⟩ := info_parts info5
  have HI := Lib.hid (And.intro hi0 (And.intro hz0 (And.intro hz1 hz2)))
  clear hi0 hz0 hz1 hz2
  have Hlen : Hid ((cb xs).length = n * 1) := by show _ = _; rw [cb_length, ht.1, Nat.mul_one]
  have Hxl : Hid (xs.length = n) := ht.1
  have HE : Hid ((w.alloc (.cells #[] 5)).ownsRow w.heap.size 5 1 (.slice (some ⟨w.heap.size, 0, none⟩) 0 0) 0 []) := emp w _ (Nat.le_refl _)
  have HC : Hid (∀ ad, A = some ad → ∀ j u, (cb xs)[j]? = some u → (w.alloc (.cells #[] 5)).cell? (ad.add j) = some u) := by
    intro ad e j u hu
    have hj : j < (cb xs).length := (List.getElem?_eq_some_iff.1 hu).1
    rw [cb_length, ht.1] at hj
    obtain ⟨ad', e', hc⟩ := (ht.later ((Only.refl _ w).alloc (fun _ h => h) (.cells #[] 5))).2 (by omega)
    rw [e] at e'
    cases e'
    exact hc j u hu
  have HSz : Hid (w.heap.size ≤ (w.alloc (.cells #[] 5)).heap.size) := by show _ ≤ _; simp
  have HA := Lib.hid hA
  have HT := Lib.hid ht
  have hn4 : IntKind.i64.wrap ((n : Int) - 4) = (n : Int) - 4 := IntWalk.i64_in _ (by omega)
  clear hA ht
  by_cases hr : rm4 n at_ = true
  · have E : Hid (sealB xs at_ = put4 xs at_.toNat) := by show _ = _; unfold sealB; rw [Hxl.out, if_pos hr]
    obtain ⟨a, rfl⟩ : ∃ a : Nat, at_ = (a : Int) := ⟨at_.toNat, by simp only [rm4, decide_eq_true_eq] at hr; omega⟩
    have ha : a + 4 ≤ n := by simp only [rm4, decide_eq_true_eq] at hr; omega
    obtain ⟨ad, rfl⟩ : ∃ ad, A = some ad := by
      cases A with
      | some ad => exact ⟨ad, rfl⟩
      | none => have := (HA.out rfl).1; omega
    have HD3 : Hid (n = a + 4 → xs.drop (a + 4) = []) := fun e => List.drop_of_length_le (by rw [Hxl.out]; omega)
    have Hoth : Hid (cb (oth xs a) = cb (xs.take a) ++ cb (xs.drop (a + 4))) := cb_append _ _
    have Hothl : Hid ((oth xs a).length = a + (n - (a + 4))) := by
      show _ = _
      unfold oth
      rw [List.length_append, List.length_take, List.length_drop, Hxl.out]
      omega
    have HTl : Hid ((cb (xs.take a)).length = a * 1) := by show _ = _; rw [cb_length, List.length_take, Hxl.out]; omega
    have HDl0 : Hid ((cb (xs.drop (a + 4))).length = (n - (a + 4)) * 1) := by show _ = _; rw [cb_length, List.length_drop, Hxl.out]; omega
    have HTa : Hid (∀ W, Only (w.heap.size ≤ ·) w W → ∀ j u, (cb (xs.take a))[j]? = some u → W.cell? (ad.add j) = some u) := by
      intro W hW j u hu
      have hj : j < (cb (xs.take a)).length := (List.getElem?_eq_some_iff.1 hu).1
      rw [HTl.out] at hj
      obtain ⟨ad', e', hc⟩ := ((HT.out.later hW).take a (by omega)).2 (by omega)
      cases e'
      exact hc j u hu
    have HTd0 : Hid (∀ W, Only (w.heap.size ≤ ·) w W → ∀ (ad' : Addr), (c ≠ a + 4 → ad' = ad.add (a + 4)) → ∀ j u, (cb (xs.drop (a + 4)))[j]? = some u → W.cell? (ad'.add j) = some u) := by
      intro W hW ad1 hne j u hu
      have hj : j < (cb (xs.drop (a + 4))).length := (List.getElem?_eq_some_iff.1 hu).1
      rw [HDl0.out] at hj
      obtain ⟨ad', e', hc⟩ := ((HT.out.later hW).drop (a + 4)).2 (by omega)
      cases e'
      rw [hne (by omega)]
      exact hc j u hu
    clear hr
    by_cases hcap : c = a + 4
    · have HTd : Hid (∀ W, Only (w.heap.size ≤ ·) w W → ∀ j u, (cb (xs.drop (a + 4)))[j]? = some u → W.cell? (ad.add j) = some u) := fun W hW => HTd0.out W hW ad (fun h => absurd hcap h)
      obtain rfl : n = a + 4 := by omega
      have HDl : Hid ((cb (xs.drop (a + 4))).length = 0 * 1) := by have := HDl0.out; rw [Nat.sub_self] at this; exact this
      clear HTd0 HDl0
      subst hcap
      have a0 : (0 : Int) ≤ (a : Int) := by omega
      have b1 : ¬ ((a : Int) < 0) := by omega
      have a5 : (0 : Int) ≤ (a : Int) + 4 := by omega
      have a6 : (a : Int) ≤ (a : Int) + 4 := by omega
      have aw : IntKind.i64.wrap ((a : Int) + 4) = (a : Int) + 4 := IntWalk.i64_in _ (by omega)
      have an : ((a : Int) + 4).toNat = a + 4 := by omega
      go_enter Tryz.func69, Tryz.ntmps69
      go_wp2_with (first | (at_builtin; refine wpList_append_src _ rfl (.tmp 9) (.tmp 10) 22 rfl w.heap.size 5 i0 _ 1 1 Tryz.underlying22 HI.out.1 HI.out.2.1 HI.out.2.2.1 HI.out.2.2.2 (by rfl) (by omega) _ 0 [] rfl HE.out (some ad) (a + 4) (a + 4) (cb xs) rfl HA.out Hlen.out HC.out (cb_one _) (by simp only [maxLen]; omega) (by omega) HSz.out ?_; intro v' w1 ho' hg'; have HW1 : Hid (Byt w w1 v' ((a + 4)) xs) := ⟨Hxl.out, by simpa using ho', ((Only.refl _ w).alloc (fun _ h => h) _).grown hg' (fun _ h => h) (fun g hg => by injection hg with hg; exact Nat.le_of_eq hg)⟩; clear ho' hg') | (at_builtin; refine wpList_append_own _ rfl (.tmp 22) (.tmp 25) 22 rfl w1.heap.size 5 i0 _ 1 1 Tryz.underlying22 HI.out.1 HI.out.2.1 HI.out.2.2.1 HI.out.2.2.2 (by rfl) (by omega) (.slice (some ⟨w1.heap.size, 0, none⟩) 0 0) 0 [] rfl (emp w1 _ (Nat.le_refl _)) ad a (a + 4) (cb (xs.take a)) rfl HTl.out (HTa.out _ (HW1.out.2.2.alloc (fun _ h => h) _)) (cb_one _) (by simp only [maxLen]; omega) (by omega) (by simp) ?_; intro v2 w2 ho2 hg2 _; have HR2 : Hid (w2.ownsRow w1.heap.size 5 1 v2 a (cb (xs.take a))) := Lib.hid (by simpa using ho2); have HO2 : Hid (Only (w1.heap.size ≤ ·) w1 w2) := ((Only.refl _ w1).alloc (fun _ h => h) _).grown hg2 (fun _ h => h) (fun g hg => by injection hg with hg; exact Nat.le_of_eq hg); clear ho2 hg2) | (at_builtin; refine wpList_append_own _ rfl (.tmp 27) (.tmp 31) 22 rfl w1.heap.size 5 i0 _ 1 1 Tryz.underlying22 HI.out.1 HI.out.2.1 HI.out.2.2.1 HI.out.2.2.2 (by rfl) (by omega) v2 a (cb (xs.take a)) rfl HR2.out ad 0 0 (cb (xs.drop (a + 4))) rfl HDl.out (HTd.out _ (HW1.out.2.2.trans (HO2.out.mono fun k h => Nat.le_trans HW1.out.2.2.size h))) (cb_one _) (by simp only [maxLen]; omega) (by omega) HO2.out.size ?_; intro v3 w3 ho3 hg3 _; have HO3 : Hid (Only (w1.heap.size ≤ ·) w1 w3) := HO2.out.grown hg3 (fun _ h => h) (fun g hg => (HR2.out.lt g hg).1); have HR3 : Hid (w3.ownsRow w1.heap.size 5 1 v3 (a + 0) (cb (oth xs a))) := Lib.hid (by rw [Hoth.out]; exact ho3); clear ho3 hg3; obtain ⟨A3, c3, rfl, ht3, _⟩ := txt_of_own HR3.out; have HT3 := Lib.hid ht3; clear ht3) | (go_at_call 91; refine (refOf_c _ A3 (a + 0) c3 (oth xs a) HT3.out (by omega)).mono ?_; rintro e w4 ⟨rfl, ho4⟩; have HO4 : Hid (Only (w1.heap.size ≤ ·) w1 w4) := HO3.out.trans (ho4.mono fun k h => Nat.le_trans HO3.out.size h); clear ho4))
      obtain ⟨hxl, hrow, hon⟩ := HW1.out
      rcases hrow.2 with ⟨_, h0⟩ | ⟨g, cap, cur, rfl, hbg, hg, hnc, hcpm, hcs, htake⟩
      · omega
      have hgl : g < w1.heap.size := (Array.getElem?_eq_some_iff.1 hg).1
      obtain ⟨S, hS⟩ : ∃ S, S = sum (oth xs a) := ⟨_, rfl⟩
      rw [← hS]
      have hSl : S < 4294967296 := by rw [hS]; exact sum_lt _
      have HM : Hid (MidB w w4 g a cur.toList S 0) := by
        have h1 : Blk w1 g 5 cur.toList := by unfold Blk; rw [Array.toArray_toList]; exact hg
        refine ⟨?_, hon.trans (HO4.out.mono fun k h => Nat.le_trans hon.size h)⟩
        rw [List.take_zero, splice_nil]
        exact h1.only HO4.out (by omega)
      have Hcl : Hid (cur.toList.length = cap) := by show _ = _; rw [Array.length_toList, hcs, Nat.mul_one]
      have Hcs : Hid (cur.size = cap * 1) := hcs
      have HE2 : Hid (cb (put4 xs a) = (splice cur.toList a (cb (le4 S))).take (a + 4)) := by
        show _ = _
        rw [hS]
        exact put4_cells cur.toList xs a (a + 4) ha (by have := Hcl.out; omega) (by rw [← htake, Nat.mul_one])
      have w0 : IntKind.i64.wrap ((a : Int) + 0) = (a : Int) := IntWalk.i64_in _ (by omega)
      have w1' : IntKind.i64.wrap ((a : Int) + 1) = (a : Int) + 1 := IntWalk.i64_in _ (by omega)
      have w2' : IntKind.i64.wrap ((a : Int) + 2) = (a : Int) + 2 := IntWalk.i64_in _ (by omega)
      have w3' : IntKind.i64.wrap ((a : Int) + 3) = (a : Int) + 3 := IntWalk.i64_in _ (by omega)
      have Hcpm := Lib.hid hcpm
      have Hxl2 := Lib.hid hxl
      have hcap1 : a + 4 ≤ cap := by omega
      clear hS hgl HW1 htake hcs hg hcpm hrow hon HO4 HO3 aw an hxl
      go_loopw [8, 7] (fun i s wr => ∃ k : Nat, k ≤ 4 ∧ i = .int .i64 k ∧ s = .int .u32 (S / 256 ^ k : Nat) ∧ MidB w wr g a cur.toList S k) (fun i _ _ => 4 - (intOf i).toNat)
      case atStart => exact ⟨0, by omega, rfl, by simp, HM.out⟩
      case round =>
        clear HM
        obtain ⟨k, hk, rfl, rfl, hm⟩ := hrel
        have HM := Lib.hid hm
        clear hm
        by_cases hlt : k < 4
        · have hk4 : k = 0 ∨ k = 1 ∨ k = 2 ∨ k = 3 := by omega
          rcases hk4 with rfl | rfl | rfl | rfl
          · obtain ⟨u, hu⟩ := HM.out.cell (by have := Hcl.out; omega) (by omega)
            have fu := HM.out.1.frozen (a + 0)
            have q1 : (a : Int) + 0 < ((a + 4) : Nat) := by omega
            have q0 : (0 : Int) ≤ (a : Int) + 0 := by omega
            have q2 : ((a : Int) + 0).toNat = a + 0 := by omega
            simp only [Nat.add_zero] at hu fu
            go_wp2
            exact ⟨⟨1, by omega, rfl, by first | (simp; done) | (simp; omega), HM.out.set (by omega) hbg (by have := Hcl.out; omega) _ (by simp)⟩, by simp [intOf]⟩
          · obtain ⟨u, hu⟩ := HM.out.cell (by have := Hcl.out; omega) (by omega)
            have fu := HM.out.1.frozen (a + 1)
            have q1 : (a : Int) + 1 < ((a + 4) : Nat) := by omega
            have q0 : (0 : Int) ≤ (a : Int) + 1 := by omega
            have q2 : ((a : Int) + 1).toNat = a + 1 := by omega
            skip
            go_wp2
            exact ⟨⟨2, by omega, rfl, by first | (simp; done) | (simp; omega), HM.out.set (by omega) hbg (by have := Hcl.out; omega) _ (by simp)⟩, by simp [intOf]⟩
          · obtain ⟨u, hu⟩ := HM.out.cell (by have := Hcl.out; omega) (by omega)
            have fu := HM.out.1.frozen (a + 2)
            have q1 : (a : Int) + 2 < ((a + 4) : Nat) := by omega
            have q0 : (0 : Int) ≤ (a : Int) + 2 := by omega
            have q2 : ((a : Int) + 2).toNat = a + 2 := by omega
            skip
            go_wp2
            exact ⟨⟨3, by omega, rfl, by first | (simp; done) | (simp; omega), HM.out.set (by omega) hbg (by have := Hcl.out; omega) _ (by simp)⟩, by simp [intOf]⟩
          · obtain ⟨u, hu⟩ := HM.out.cell (by have := Hcl.out; omega) (by omega)
            have fu := HM.out.1.frozen (a + 3)
            have q1 : (a : Int) + 3 < ((a + 4) : Nat) := by omega
            have q0 : (0 : Int) ≤ (a : Int) + 3 := by omega
            have q2 : ((a : Int) + 3).toNat = a + 3 := by omega
            skip
            go_wp2
            exact ⟨⟨4, by omega, rfl, by first | (simp; done) | (simp; omega), HM.out.set (by omega) hbg (by have := Hcl.out; omega) _ (by simp)⟩, by simp [intOf]⟩
        · obtain rfl : k = 4 := by omega
          go_wp2
          go_ret
          refine ⟨_, rfl, ?_⟩
          have hm := HM.out
          have e4 : (cb (le4 S)).take 4 = cb (le4 S) := List.take_of_length_le (by rw [cb_length, le4_length]; omega)
          unfold MidB at hm
          rw [e4] at hm
          have hcl := Hcl.out
          have hpl := put4_length xs a (by rw [Hxl2.out]; exact ha)
          rw [E.out, Int.toNat_natCast]
          refine ⟨by rw [hpl]; exact Hxl2.out, ⟨by rw [cb_length, hpl, Hxl2.out, Nat.mul_one], .inr ⟨g, cap, _, rfl, hbg, hm.1, hnc, Hcpm.out, ?_, ?_⟩⟩, hm.2⟩
          · simp [splice, cb_length, le4_length] at hcl ⊢
            omega
          · rw [HE2.out, Nat.mul_one]
    · have HTd : Hid (∀ W, Only (w.heap.size ≤ ·) w W → ∀ j u, (cb (xs.drop (a + 4)))[j]? = some u → W.cell? ((ad.add (a + 4)).add j) = some u) := fun W hW => HTd0.out W hW _ (fun h => rfl)
      have HDl : Hid ((cb (xs.drop (a + 4))).length = (n - (a + 4)) * 1) := HDl0.out
      clear HTd0 HDl0
      have a0 : (0 : Int) ≤ (a : Int) := by omega
      have b1 : ¬ ((a : Int) < 0) := by omega
      have b2 : ¬ ((n : Int) - 4 < (a : Int)) := by omega
      have a1 : (a : Int) ≤ (n : Int) := by omega
      have a2 : (a : Int) ≤ (c : Int) := by omega
      have a4 : (a : Int) + 4 ≤ (n : Int) := by omega
      have a5 : (0 : Int) ≤ (a : Int) + 4 := by omega
      have aw : IntKind.i64.wrap ((a : Int) + 4) = (a : Int) + 4 := IntWalk.i64_in _ (by omega)
      have an : ((a : Int) + 4).toNat = a + 4 := by omega
      go_enter Tryz.func69, Tryz.ntmps69
      go_wp2_with (first | (at_builtin; refine wpList_append_src _ rfl (.tmp 9) (.tmp 10) 22 rfl w.heap.size 5 i0 _ 1 1 Tryz.underlying22 HI.out.1 HI.out.2.1 HI.out.2.2.1 HI.out.2.2.2 (by rfl) (by omega) _ 0 [] rfl HE.out (some ad) n c (cb xs) rfl HA.out Hlen.out HC.out (cb_one _) (by simp only [maxLen]; omega) (by omega) HSz.out ?_; intro v' w1 ho' hg'; have HW1 : Hid (Byt w w1 v' n xs) := ⟨Hxl.out, by simpa using ho', ((Only.refl _ w).alloc (fun _ h => h) _).grown hg' (fun _ h => h) (fun g hg => by injection hg with hg; exact Nat.le_of_eq hg)⟩; clear ho' hg') | (at_builtin; refine wpList_append_own _ rfl (.tmp 22) (.tmp 25) 22 rfl w1.heap.size 5 i0 _ 1 1 Tryz.underlying22 HI.out.1 HI.out.2.1 HI.out.2.2.1 HI.out.2.2.2 (by rfl) (by omega) (.slice (some ⟨w1.heap.size, 0, none⟩) 0 0) 0 [] rfl (emp w1 _ (Nat.le_refl _)) ad a c (cb (xs.take a)) rfl HTl.out (HTa.out _ (HW1.out.2.2.alloc (fun _ h => h) _)) (cb_one _) (by simp only [maxLen]; omega) (by omega) (by simp) ?_; intro v2 w2 ho2 hg2 _; have HR2 : Hid (w2.ownsRow w1.heap.size 5 1 v2 a (cb (xs.take a))) := Lib.hid (by simpa using ho2); have HO2 : Hid (Only (w1.heap.size ≤ ·) w1 w2) := ((Only.refl _ w1).alloc (fun _ h => h) _).grown hg2 (fun _ h => h) (fun g hg => by injection hg with hg; exact Nat.le_of_eq hg); clear ho2 hg2) | (at_builtin; refine wpList_append_own _ rfl (.tmp 27) (.tmp 31) 22 rfl w1.heap.size 5 i0 _ 1 1 Tryz.underlying22 HI.out.1 HI.out.2.1 HI.out.2.2.1 HI.out.2.2.2 (by rfl) (by omega) v2 a (cb (xs.take a)) rfl HR2.out (ad.add (a + 4)) (n - (a + 4)) (c - (a + 4)) (cb (xs.drop (a + 4))) rfl HDl.out (HTd.out _ (HW1.out.2.2.trans (HO2.out.mono fun k h => Nat.le_trans HW1.out.2.2.size h))) (cb_one _) (by simp only [maxLen]; omega) (by omega) HO2.out.size ?_; intro v3 w3 ho3 hg3 _; have HO3 : Hid (Only (w1.heap.size ≤ ·) w1 w3) := HO2.out.grown hg3 (fun _ h => h) (fun g hg => (HR2.out.lt g hg).1); have HR3 : Hid (w3.ownsRow w1.heap.size 5 1 v3 (a + (n - (a + 4))) (cb (oth xs a))) := Lib.hid (by rw [Hoth.out]; exact ho3); clear ho3 hg3; obtain ⟨A3, c3, rfl, ht3, _⟩ := txt_of_own HR3.out; have HT3 := Lib.hid ht3; clear ht3) | (go_at_call 91; refine (refOf_c _ A3 (a + (n - (a + 4))) c3 (oth xs a) HT3.out (by omega)).mono ?_; rintro e w4 ⟨rfl, ho4⟩; have HO4 : Hid (Only (w1.heap.size ≤ ·) w1 w4) := HO3.out.trans (ho4.mono fun k h => Nat.le_trans HO3.out.size h); clear ho4))
      obtain ⟨hxl, hrow, hon⟩ := HW1.out
      rcases hrow.2 with ⟨_, h0⟩ | ⟨g, cap, cur, rfl, hbg, hg, hnc, hcpm, hcs, htake⟩
      · omega
      have hgl : g < w1.heap.size := (Array.getElem?_eq_some_iff.1 hg).1
      obtain ⟨S, hS⟩ : ∃ S, S = sum (oth xs a) := ⟨_, rfl⟩
      rw [← hS]
      have hSl : S < 4294967296 := by rw [hS]; exact sum_lt _
      have HM : Hid (MidB w w4 g a cur.toList S 0) := by
        have h1 : Blk w1 g 5 cur.toList := by unfold Blk; rw [Array.toArray_toList]; exact hg
        refine ⟨?_, hon.trans (HO4.out.mono fun k h => Nat.le_trans hon.size h)⟩
        rw [List.take_zero, splice_nil]
        exact h1.only HO4.out (by omega)
      have Hcl : Hid (cur.toList.length = cap) := by show _ = _; rw [Array.length_toList, hcs, Nat.mul_one]
      have Hcs : Hid (cur.size = cap * 1) := hcs
      have HE2 : Hid (cb (put4 xs a) = (splice cur.toList a (cb (le4 S))).take n) := by
        show _ = _
        rw [hS]
        exact put4_cells cur.toList xs a n ha (by have := Hcl.out; omega) (by rw [← htake, Nat.mul_one])
      have w0 : IntKind.i64.wrap ((a : Int) + 0) = (a : Int) := IntWalk.i64_in _ (by omega)
      have w1' : IntKind.i64.wrap ((a : Int) + 1) = (a : Int) + 1 := IntWalk.i64_in _ (by omega)
      have w2' : IntKind.i64.wrap ((a : Int) + 2) = (a : Int) + 2 := IntWalk.i64_in _ (by omega)
      have w3' : IntKind.i64.wrap ((a : Int) + 3) = (a : Int) + 3 := IntWalk.i64_in _ (by omega)
      have Hcpm := Lib.hid hcpm
      have Hxl2 := Lib.hid hxl
      have hcap1 : a + 4 ≤ cap := by omega
      clear hS hgl HW1 htake hcs hg hcpm hrow hon HO4 HO3 aw an hxl
      go_loopw [8, 7] (fun i s wr => ∃ k : Nat, k ≤ 4 ∧ i = .int .i64 k ∧ s = .int .u32 (S / 256 ^ k : Nat) ∧ MidB w wr g a cur.toList S k) (fun i _ _ => 4 - (intOf i).toNat)
      case atStart => exact ⟨0, by omega, rfl, by simp, HM.out⟩
      case round =>
        clear HM
        obtain ⟨k, hk, rfl, rfl, hm⟩ := hrel
        have HM := Lib.hid hm
        clear hm
        by_cases hlt : k < 4
        · have hk4 : k = 0 ∨ k = 1 ∨ k = 2 ∨ k = 3 := by omega
          rcases hk4 with rfl | rfl | rfl | rfl
          · obtain ⟨u, hu⟩ := HM.out.cell (by have := Hcl.out; omega) (by omega)
            have fu := HM.out.1.frozen (a + 0)
            have q1 : (a : Int) + 0 < (n : Nat) := by omega
            have q0 : (0 : Int) ≤ (a : Int) + 0 := by omega
            have q2 : ((a : Int) + 0).toNat = a + 0 := by omega
            simp only [Nat.add_zero] at hu fu
            go_wp2
            exact ⟨⟨1, by omega, rfl, by first | (simp; done) | (simp; omega), HM.out.set (by omega) hbg (by have := Hcl.out; omega) _ (by simp)⟩, by simp [intOf]⟩
          · obtain ⟨u, hu⟩ := HM.out.cell (by have := Hcl.out; omega) (by omega)
            have fu := HM.out.1.frozen (a + 1)
            have q1 : (a : Int) + 1 < (n : Nat) := by omega
            have q0 : (0 : Int) ≤ (a : Int) + 1 := by omega
            have q2 : ((a : Int) + 1).toNat = a + 1 := by omega
            skip
            go_wp2
            exact ⟨⟨2, by omega, rfl, by first | (simp; done) | (simp; omega), HM.out.set (by omega) hbg (by have := Hcl.out; omega) _ (by simp)⟩, by simp [intOf]⟩
          · obtain ⟨u, hu⟩ := HM.out.cell (by have := Hcl.out; omega) (by omega)
            have fu := HM.out.1.frozen (a + 2)
            have q1 : (a : Int) + 2 < (n : Nat) := by omega
            have q0 : (0 : Int) ≤ (a : Int) + 2 := by omega
            have q2 : ((a : Int) + 2).toNat = a + 2 := by omega
            skip
            go_wp2
            exact ⟨⟨3, by omega, rfl, by first | (simp; done) | (simp; omega), HM.out.set (by omega) hbg (by have := Hcl.out; omega) _ (by simp)⟩, by simp [intOf]⟩
          · obtain ⟨u, hu⟩ := HM.out.cell (by have := Hcl.out; omega) (by omega)
            have fu := HM.out.1.frozen (a + 3)
            have q1 : (a : Int) + 3 < (n : Nat) := by omega
            have q0 : (0 : Int) ≤ (a : Int) + 3 := by omega
            have q2 : ((a : Int) + 3).toNat = a + 3 := by omega
            skip
            go_wp2
            exact ⟨⟨4, by omega, rfl, by first | (simp; done) | (simp; omega), HM.out.set (by omega) hbg (by have := Hcl.out; omega) _ (by simp)⟩, by simp [intOf]⟩
        · obtain rfl : k = 4 := by omega
          go_wp2
          go_ret
          refine ⟨_, rfl, ?_⟩
          have hm := HM.out
          have e4 : (cb (le4 S)).take 4 = cb (le4 S) := List.take_of_length_le (by rw [cb_length, le4_length]; omega)
          unfold MidB at hm
          rw [e4] at hm
          have hcl := Hcl.out
          have hpl := put4_length xs a (by rw [Hxl2.out]; exact ha)
          rw [E.out, Int.toNat_natCast]
          refine ⟨by rw [hpl]; exact Hxl2.out, ⟨by rw [cb_length, hpl, Hxl2.out, Nat.mul_one], .inr ⟨g, cap, _, rfl, hbg, hm.1, hnc, Hcpm.out, ?_, ?_⟩⟩, hm.2⟩
          · simp [splice, cb_length, le4_length] at hcl ⊢
            omega
          · rw [HE2.out, Nat.mul_one]
  · have E : Hid (sealB xs at_ = xs) := by
      show _ = _
      unfold sealB
      rw [Hxl.out, show rm4 n at_ = false by simpa using hr]
      rfl
    simp only [rm4, decide_eq_true_eq] at hr
    by_cases b0 : at_ < 0
    · clear hr
      go_enter Tryz.func69, Tryz.ntmps69
      go_wp2_with (first | (at_builtin; refine wpList_append_src _ rfl (.tmp 9) (.tmp 10) 22 rfl w.heap.size 5 i0 _ 1 1 Tryz.underlying22 HI.out.1 HI.out.2.1 HI.out.2.2.1 HI.out.2.2.2 (by rfl) (by omega) _ 0 [] rfl HE.out A n c (cb xs) rfl HA.out Hlen.out HC.out (cb_one _) (by simp only [maxLen]; omega) (by omega) HSz.out ?_; intro v' w1 ho' hg'; have HW1 : Hid (Byt w w1 v' n xs) := ⟨Hxl.out, by simpa using ho', ((Only.refl _ w).alloc (fun _ h => h) _).grown hg' (fun _ h => h) (fun g hg => by injection hg with hg; exact Nat.le_of_eq hg)⟩; clear ho' hg'))
      go_ret
      refine ⟨_, rfl, ?_⟩
      rw [E.out]
      exact HW1.out
    · have b1 : (n : Int) - 4 < at_ := by omega
      clear hr
      go_enter Tryz.func69, Tryz.ntmps69
      go_wp2_with (first | (at_builtin; refine wpList_append_src _ rfl (.tmp 9) (.tmp 10) 22 rfl w.heap.size 5 i0 _ 1 1 Tryz.underlying22 HI.out.1 HI.out.2.1 HI.out.2.2.1 HI.out.2.2.2 (by rfl) (by omega) _ 0 [] rfl HE.out A n c (cb xs) rfl HA.out Hlen.out HC.out (cb_one _) (by simp only [maxLen]; omega) (by omega) HSz.out ?_; intro v' w1 ho' hg'; have HW1 : Hid (Byt w w1 v' n xs) := ⟨Hxl.out, by simpa using ho', ((Only.refl _ w).alloc (fun _ h => h) _).grown hg' (fun _ h => h) (fun g hg => by injection hg with hg; exact Nat.le_of_eq hg)⟩; clear ho' hg'))
      go_ret
      refine ⟨_, rfl, ?_⟩
      rw [E.out]
      exact HW1.out
end Go.Proofs.YtbpldkhgiddmlaaGreatDoor

