/-
  Dab Dse Dby Dcl Ddk Dme Dsy Dcr Dbu Dwr Dcs Dgr Dgg: as one text.
-/
import Derived.Test.YtbpldkhgiddmlaaGreatDoorGa
import Derived.Deep.RegionHeld3
import Derived.Laws.CopyOwn
import Derived.Laws.MakeOwn
import Derived.Deep.RegionLaw
import Derived.Deep.LoopGhost
import Derived.Outline
import Derived.IntWalk
import Derived.WalkSpells
import Derived.Deep.WholeRow
import Derived.Deep.AppendLies
import Derived.Great.BuildSlice
import Derived.Deep.DrawnRows
/-
  A disk as plain data: what each call makes of it. No memory here.
-/
set_option linter.unusedVariables false
namespace Go.Proofs.YtbpldkhgiddmlaaGreatDoor.Dk

/-- A write of one sector. -/
abbrev Wr := Nat × Bytes
def wrCells (e : Wr) : List Value := .int .i64 e.1 :: cb e.2
def rowCells (r : List Wr) : List Value := r.flatMap wrCells
def put (s : Bytes) (e : Wr) : Bytes := over s (e.1 * 64) e.2
def look (s : Bytes) (r : List Wr) : Bytes := r.foldl put s
def Fits (n : Nat) (r : List Wr) : Prop := ∀ e ∈ r, e.1 < n ∧ e.2.length = 64

theorem rowCells_append (a b : List Wr) : rowCells (a ++ b) = rowCells a ++ rowCells b := by simp [rowCells]
theorem rowCells_one (e : Wr) : rowCells [e] = wrCells e := by simp [rowCells]
theorem rowCells_length {n : Nat} : ∀ (r : List Wr), Fits n r → (rowCells r).length = r.length * 65
  | [], _ => by simp [rowCells]
  | e :: r, h => by
    have h1 := (h e (by simp)).2
    have ih := rowCells_length r (fun x hx => h x (by simp [hx]))
    unfold rowCells at ih ⊢
    rw [List.flatMap_cons, List.length_append, ih]
    simp [wrCells, cb_length, h1]
    omega
theorem rowCells_at {n : Nat} : ∀ (r : List Wr) (k : Nat) (hk : k < r.length), Fits n r → ((rowCells r).drop (k * 65)).take 65 = wrCells r[k]
  | e :: r, 0, _, h => by
    have h1 := (h e (by simp)).2
    have : (wrCells e).length = 65 := by simp [wrCells, cb_length, h1]
    simp only [rowCells, List.flatMap_cons, Nat.zero_mul, List.drop_zero, List.getElem_cons_zero]
    rw [List.take_append_of_le_length (by omega), List.take_of_length_le (by omega)]
  | e :: r, k + 1, hk, h => by
    have h1 := (h e (by simp)).2
    have hl : (wrCells e).length = 65 := by simp [wrCells, cb_length, h1]
    have ih := rowCells_at r k (by simpa using hk) (fun x hx => h x (by simp [hx]))
    simp only [rowCells, List.flatMap_cons, List.getElem_cons_succ] at ih ⊢
    have e1 : ∀ X : List Value, (wrCells e ++ X).drop 65 = X := fun X => by rw [← hl]; exact List.drop_left
    rw [show (k + 1) * 65 = 65 + k * 65 by omega, ← List.drop_drop, e1]
    exact ih
theorem look_append (s : Bytes) (a b : List Wr) : look s (a ++ b) = look (look s a) b := by simp [look]
theorem look_length {n : Nat} : ∀ (r : List Wr) (s : Bytes), Fits n r → s.length = n * 64 → (look s r).length = n * 64
  | [], s, _, hs => hs
  | e :: r, s, h, hs => by
    have h1 := h e (by simp)
    exact look_length r _ (fun x hx => h x (by simp [hx])) ((over_length _ _ _ (by omega)).trans hs)
theorem Fits.append {n : Nat} {a b : List Wr} (ha : Fits n a) (hb : Fits n b) : Fits n (a ++ b) := fun e he => by
  rcases List.mem_append.1 he with h | h
  · exact ha e h
  · exact hb e h
theorem Fits.take {n : Nat} {a : List Wr} (ha : Fits n a) (k : Nat) : Fits n (a.take k) := fun e he => ha e (List.mem_of_mem_take he)
theorem look_grown {n : Nat} : ∀ (r : List Wr) (s t : Bytes), Fits n r → s.length = n * 64 → look (s ++ t) r = look s r ++ t
  | [], s, t, _, _ => rfl
  | e :: r, s, t, h, hs => by
    have h1 := h e (by simp)
    have hp : put (s ++ t) e = put s e ++ t := over_append _ _ _ _ (by omega)
    show look (put (s ++ t) e) r = look (put s e) r ++ t
    rw [hp]
    exact look_grown r _ t (fun x hx => h x (by simp [hx])) ((over_length _ _ _ (by omega)).trans hs)

structure Dsk where
  limit : Nat
  n : Nat
  dur : Bytes
  row : List Wr
  ops : Nat
  armed : Bool
  left : Nat
  down : Bool

structure Dsk.WF (d : Dsk) : Prop where
  nl : d.n ≤ d.limit
  lim : d.limit ≤ 65536
  len : d.dur.length = d.n * 64
  fits : Fits d.n d.row
  left : d.left < 9223372036854775808

def Dsk.see (d : Dsk) : Bytes := look d.dur d.row
theorem Dsk.WF.see {d : Dsk} (h : d.WF) : d.see.length = d.n * 64 := look_length _ _ h.fits h.len

/-- The first k sectors of bytes, as writes from 'at' on. -/
def chunks (at_ : Nat) (xs : Bytes) (k : Nat) : List Wr := (List.range k).map fun j => (at_ + j, (xs.drop (j * 64)).take 64)
theorem chunks_succ (at_ : Nat) (xs : Bytes) (k : Nat) : chunks at_ xs (k + 1) = chunks at_ xs k ++ [(at_ + k, (xs.drop (k * 64)).take 64)] := by simp [chunks, List.range_succ]
theorem chunks_length (at_ : Nat) (xs : Bytes) (k : Nat) : (chunks at_ xs k).length = k := by simp [chunks]
theorem chunks_fits {n at_ : Nat} {xs : Bytes} {k : Nat} (h1 : at_ + k ≤ n) (h2 : k * 64 ≤ xs.length) : Fits n (chunks at_ xs k) := by
  intro e he
  simp only [chunks, List.mem_map, List.mem_range] at he
  obtain ⟨j, hj, rfl⟩ := he
  exact ⟨by show at_ + j < n; omega, by simp; omega⟩

def Dsk.op (d : Dsk) : Dsk × Int :=
  if d.armed = false then ({ d with ops := d.ops + 1 }, 0)
  else if 0 < d.left then ({ d with ops := d.ops + 1, left := d.left - 1 }, 0)
  else ({ d with ops := d.ops + 1, down := true }, 10)
def Dsk.has (d : Dsk) (at_ many : Int) : Bool := decide (0 ≤ at_) && (decide (0 ≤ many) && decide (many ≤ d.n - at_))
def Dsk.write (d : Dsk) (at_ : Int) (xs : Bytes) : Dsk × Int :=
  if d.down = true then (d, 10)
  else if xs.length = 0 ∨ xs.length % 64 ≠ 0 then (d, 1)
  else if d.has at_ (xs.length / 64 : Nat) = false then (d, 11)
  else Dsk.op { d with row := d.row ++ chunks at_.toNat xs (xs.length / 64) }
def Dsk.sync (d : Dsk) : Dsk × Int :=
  if d.down = true then (d, 10)
  else if d.op.2 ≠ 0 then d.op
  else ({ d.op.1 with dur := d.see, row := [] }, 0)
def keepAt (keep : List Bool) (k : Nat) : Bool := decide (0 < keep.length) && keep.getD (k % keep.length) false
def kept (keep : List Bool) (r : List Wr) (k : Nat) : List Wr := (List.range k).filterMap fun j => if keepAt keep j = true then r[j]? else none
def Dsk.arm (d : Dsk) (n : Int) : Dsk := { d with armed := decide (0 ≤ n), left := n.toNat }
def Dsk.grow (d : Dsk) (n : Int) : Dsk × Int :=
  if d.down = true then (d, 10)
  else if (d.limit : Int) < n then (d, 12)
  else ({ d with n := max d.n n.toNat, dur := d.dur ++ List.replicate ((n.toNat - d.n) * 64) 0 }, 0)
def pad (xs : Bytes) : Bytes := xs ++ List.replicate ((xs.length + 63) / 64 * 64 - xs.length) 0
def cut (limit : Int) : Nat := min limit.toNat 65536
def Dsk.load (xs : Bytes) (limit : Int) : Dsk :=
  { limit := cut limit, n := ((xs.take (cut limit * 64)).length + 63) / 64, dur := pad (xs.take (cut limit * 64)), row := [], ops := 0, armed := false, left := 0, down := false }

theorem Dsk.op_see (d : Dsk) : d.op.1.see = d.see := by unfold Dsk.op Dsk.see; split <;> (try split) <;> rfl
theorem Dsk.WF.op {d : Dsk} (h : d.WF) : d.op.1.WF := by
  unfold Dsk.op
  split
  · exact ⟨h.nl, h.lim, h.len, h.fits, h.left⟩
  · split
    · exact ⟨h.nl, h.lim, h.len, h.fits, by show d.left - 1 < _; have := h.left; omega⟩
    · exact ⟨h.nl, h.lim, h.len, h.fits, h.left⟩
theorem pad_length (xs : Bytes) : (pad xs).length = (xs.length + 63) / 64 * 64 := by simp [pad]; omega
theorem Dsk.WF.load (xs : Bytes) (limit : Int) : (Dsk.load xs limit).WF := by
  refine ⟨?_, ?_, ?_, ?_, by simp [Dsk.load]⟩
  · simp only [Dsk.load, List.length_take]; omega
  · simp only [Dsk.load, cut]; omega
  · simp only [Dsk.load, pad_length]
  · intro e he; simp [Dsk.load] at he

end Go.Proofs.YtbpldkhgiddmlaaGreatDoor.Dk

/-
  Bytes into sectors, sectors into bytes.
-/
set_option linter.unusedVariables false
namespace Go.Proofs.YtbpldkhgiddmlaaGreatDoor.Dk
open Go.RowKit

/-- A slice value that holds the cells xs, in a block of which F does not speak. -/
def Src (w : World) (F : Nat → Prop) (A : Option Addr) (n : Nat) (xs : List Value) : Prop :=
  xs.length = n ∧ (0 < n → ∃ ad, A = some ad ∧ ¬ F ad.block ∧ ∀ j u, xs[j]? = some u → w.cell? (ad.add j) = some u)

theorem info53 : (Tryz.prog.info? 78).map (fun i => (i.zero, i.size, i.bytes)) = some (some (.agg (Array.replicate 64 z8)), 64, 64) := by kernel_rfl
theorem made53 (k : Nat) : madeCells (Value.agg (Array.replicate 64 z8)).cells k = (List.replicate k z8).toArray := by
  unfold madeCells
  apply Array.ext
  · simp
  · intro i h1 h2
    have : i % 64 < 64 := Nat.mod_lt _ (by omega)
    simp [Value.cells, this]

theorem size5 : (Tryz.prog.info? 5).map (·.size) = some 1 := by kernel_rfl
theorem splice_fill (xs : List Value) (a L : Nat) (z : Value) (ha : a ≤ xs.length) (hL : xs.length ≤ L) :
    splice (xs.take a ++ List.replicate (L - a) z) a ((xs.drop a).take 64) = xs.take (a + 64) ++ List.replicate (L - min (a + 64) xs.length) z := by
  have h1 : (xs.take a).length = a := by simp [ha]
  have h2 : ((xs.drop a).take 64).length = min 64 (xs.length - a) := by simp
  have e1 : (xs.take a ++ List.replicate (L - a) z).take a = xs.take a := by
    rw [List.take_append_of_le_length (by omega)]
    exact List.take_of_length_le (by omega)
  have e2 : (xs.take a ++ List.replicate (L - a) z).drop (a + ((xs.drop a).take 64).length) = List.replicate (L - min (a + 64) xs.length) z := by
    rw [List.drop_append, List.drop_of_length_le (by omega), h1, List.nil_append, List.drop_replicate]
    congr 1
    omega
  unfold splice
  rw [e1, e2, ← List.append_assoc, ← List.take_add]

/-- Behind k rounds. -/
def Filled (w0 wr : World) (g m : Nat) (xs : List Value) (k : Nat) : Prop :=
  Blk wr g 78 (xs.take (k * 64) ++ List.replicate (m * 64 - min (k * 64) xs.length) z8) ∧ Only (w0.heap.size ≤ ·) w0 wr

set_option maxRecDepth 100000 in
set_option maxHeartbeats 800000 in
theorem sectorsOf_c (w : World) (A : Option Addr) (n c : Nat) (xs : List Value) (hs : Src w (w.heap.size ≤ ·) A n xs) (hc : n ≤ c) (hn : n ≤ 4294967296) (hm : c ≤ maxLen) (m : Nat) (hmm : m = (n + 63) / 64) (h1 : ∀ v ∈ xs, v.oneCell' = true) :
    Calls Tryz.prog 35 #[.slice A n c] w fun e w' => e = .returned (.slice (some ⟨w.heap.size, 0, none⟩) m m) ∧
      Blk w' w.heap.size 78 (xs ++ List.replicate (m * 64 - n) z8) ∧ Only (w.heap.size ≤ ·) w w' := by
  obtain ⟨i0, hi0, hz0, hz1, hz2⟩ := info_parts info53
  have hmk : ∀ W : World, (Instr.makeSlice 74 (.int .i64 (m : Int)) (.int .i64 (m : Int))).run Tryz.prog W = .ok (.slice (some ⟨W.heap.size, 0, none⟩) m m) (W.alloc (.cells (List.replicate (m * 64) z8).toArray 78)) := by
    intro W
    have hr := run_make (P := Tryz.prog) W 74 78 i0 _ Tryz.underlying74 hi0 hz0 .i64 .i64 m m (by omega) (by omega) (by rw [hz2]; omega) (by omega)
    simp only [Int.toNat_natCast] at hr
    rw [made53, hz1] at hr
    exact hr
  have hdiv : ((n : Int) + 64 - 1) / 64 = (m : Int) := by omega
  have hm1 : n ≤ m * 64 := by omega
  have hm2 : m * 64 < n + 64 := by omega
  clear hmm
  clear hi0 hz0 hz1 hz2
  unfold maxLen at hm
  go_enter Tryz.func35, Tryz.ntmps35
  go_wp2
  clear hdiv hmk
  go_loopw [13] (fun i wr => ∃ k : Nat, k ≤ m ∧ i = .int .i64 k ∧ Filled w wr w.heap.size m xs k) (fun i _ => m - (intOf i).toNat)
  case atStart => exact ⟨0, Nat.zero_le _, rfl, by simpa using Blk.new w 78 (List.replicate (m * 64) z8), (Only.refl _ w).alloc (fun _ h => h) _⟩
  case round =>
    obtain ⟨k, hk, rfl, hfill⟩ := hrel
    by_cases hlt : k < m
    · obtain ⟨ad, rfl, had, hcell⟩ := hs.2 (by omega)
      have hl := hs.1
      have HB : Hid (Blk wr w.heap.size 78 (xs.take (k * 64) ++ List.replicate (m * 64 - k * 64) z8)) := by
        have := hfill.1
        rw [show min (k * 64) xs.length = k * 64 by omega] at this
        exact Lib.hid this
      have HO := Lib.hid hfill.2
      clear hfill
      have HL := Lib.hid hl
      clear hl hs
      have hk0 : (0 : Int) ≤ (k : Int) := Int.natCast_nonneg _
      have hk1 : (k : Int) < (m : Int) := by omega
      have hb1 : (k : Int) * 64 ≤ (n : Int) := by omega
      have hcn : (xs.drop (k * 64)).take 64 ≠ [] := by
        have := HL.out
        intro e
        have := congrArg List.length e
        simp at this
        omega
      have hb0 : (0 : Int) ≤ (k : Int) * 64 := by omega
      have hw1 : IntKind.i64.wrap ((k : Int) * 64) = (k : Int) * 64 := IntWalk.i64_in _ (by omega)
      have hw2 : ((k : Int) * 64).toNat = k * 64 := by omega
      have hck : ¬ (c = k * 64) := by omega
      go_wp2
      have hlen : ((xs.drop (k * 64)).take 64).length = Nat.min (n - k * 64) 64 := by
        rw [List.length_take, List.length_drop, HL.out, Nat.min_comm]
      have Hlen := Lib.hid hlen
      clear hlen
      have Hpos : Hid (0 < ((xs.drop (k * 64)).take 64).length → (some ⟨w.heap.size, k * 64, none⟩ : Option Addr) = some ⟨w.heap.size, k * 64, none⟩ ∧ ∃ a, some (ad.add (k * 64)) = some a ∧ ∀ j v, ((xs.drop (k * 64)).take 64)[j]? = some v → wr.drew.cell? (a.add j) = some v) := by
        refine fun _ => ⟨rfl, _, rfl, fun j v hv => ?_⟩
        rw [List.getElem?_take] at hv
        split at hv
        · rw [List.getElem?_drop] at hv
          have e1 : (ad.add (k * 64)).add j = ad.add (k * 64 + j) := by
            unfold Addr.add
            by_cases hi : k * 64 = 0 <;> by_cases hj : j = 0 <;> simp [hi, hj, Nat.add_assoc]
          rw [e1]
          exact (HO.out.cell (p := ad.add (k * 64 + j)) (by rw [show (ad.add (k * 64 + j)).block = ad.block by unfold Addr.add; split <;> rfl]; exact had)).trans (hcell _ v hv)
        · cases hv
      have Hfit : Hid (k * 64 + ((xs.drop (k * 64)).take 64).length ≤ (xs.take (k * 64) ++ List.replicate (m * 64 - k * 64) z8).length) := by
        have := HL.out
        show _ ≤ _
        simp
        omega
      have H1 : Hid (∀ v ∈ (xs.drop (k * 64)).take 64, v.oneCell' = true) := fun v hv => h1 v (List.mem_of_mem_drop (List.mem_of_mem_take hv))
      go_region_law (refine step_copy_splice (w := wr.drew) rfl (.tmp 19) (.tmp 23) 22 22 rfl 5 Tryz.underlying22 size5 (some ⟨w.heap.size, k * 64, none⟩) (some (ad.add (k * 64))) 64 64 (n - k * 64) (c - k * 64) (by simp [Act.eval, Act.put]) (by simp [Act.eval, Act.put]) w.heap.size (k * 64) _ 78 HB.out.drew ((xs.drop (k * 64)).take 64) Hlen.out Hpos.out Hfit.out H1.out w.heap.size w (HO.out.drew.toBelow fun _ h => h) (Nat.le_refl _) ?_; intro wz HBz hbz)
      have HF : Hid (Filled w wz w.heap.size m xs (k + 1)) := by
        refine ⟨?_, Only.below hbz⟩
        have h := HBz.out
        have hl := HL.out
        rw [splice_fill xs (k * 64) (m * 64) z8 (by omega) (by omega), show k * 64 + 64 = (k + 1) * 64 by omega] at h
        exact h
      clear HBz hbz Hpos Hfit H1 Hlen HB HO hw1 hw2 hcn
      go_wp2
      go_roundw
      case rel => exact ⟨k + 1, by omega, by go_num, HF.out⟩
      case measure => simp [intOf]; omega
    · have hkm : ¬ (k : Int) < (m : Int) := by omega
      have HF := Lib.hid hfill
      clear hfill
      go_wp2
      go_ret
      obtain rfl : k = m := by omega
      have hl := hs.1
      obtain ⟨hb, ho⟩ := HF.out
      rw [List.take_of_length_le (by omega), Nat.min_eq_right (by omega), hl] at hb
      exact ⟨rfl, hb, ho⟩

end Go.Proofs.YtbpldkhgiddmlaaGreatDoor.Dk

/-
  Sectors into bytes; the small methods of a disk.
-/
set_option linter.unusedVariables false
namespace Go.Proofs.YtbpldkhgiddmlaaGreatDoor.Dk
open Go.RowKit

theorem info5 : (Tryz.prog.info? 5).map (fun i => (i.zero, i.size, i.bytes)) = some (some z8, 1, 1) := by kernel_rfl
theorem made5 (k : Nat) : madeCells (z8).cells k = (List.replicate k z8).toArray := by
  unfold madeCells
  apply Array.ext
  · simp
  · intro i h1 h2
    simp [Value.cells, z8, Nat.mod_one]

/-- Behind k rounds. -/
def FilledB (w0 wr : World) (g n : Nat) (xs : List Value) (k : Nat) : Prop :=
  Blk wr g 5 (xs.take (k * 64) ++ List.replicate (n * 64 - min (k * 64) xs.length) z8) ∧ Only (w0.heap.size ≤ ·) w0 wr

set_option maxRecDepth 100000 in
set_option maxHeartbeats 800000 in
theorem bytesOf_c (w : World) (A : Option Addr) (n c : Nat) (xs : List Value) (hl : xs.length = n * 64) (hs : 0 < n → ∃ ad, A = some ad ∧ ad.block < w.heap.size ∧ ∀ j u, xs[j]? = some u → w.cell? (ad.add j) = some u) (hn : n ≤ 4294967296) (h1 : ∀ v ∈ xs, v.oneCell' = true) :
    Calls Tryz.prog 74 #[.slice A n c] w fun e w' => e = .returned (.slice (some ⟨w.heap.size, 0, none⟩) (n * 64) (n * 64)) ∧
      Blk w' w.heap.size 5 xs ∧ Only (w.heap.size ≤ ·) w w' := by
  obtain ⟨i0, hi0, hz0, hz1, hz2⟩ := info_parts info5
  have hmk : ∀ W : World, (Instr.makeSlice 22 (.int .i64 ((n : Int) * 64)) (.int .i64 ((n : Int) * 64))).run Tryz.prog W = .ok (.slice (some ⟨W.heap.size, 0, none⟩) (n * 64) (n * 64)) (W.alloc (.cells (List.replicate (n * 64) z8).toArray 5)) := by
    intro W
    have hr := run_make (P := Tryz.prog) W 22 5 i0 _ Tryz.underlying22 hi0 hz0 .i64 .i64 ((n * 64 : Nat) : Int) ((n * 64 : Nat) : Int) (by omega) (by omega) (by rw [hz2]; omega) (by omega)
    simp only [Int.toNat_natCast] at hr
    rw [made5, hz1, Nat.mul_one] at hr
    exact_mod_cast hr
  clear hi0 hz0 hz1 hz2
  go_enter Tryz.func74, Tryz.ntmps74
  go_wp2
  clear hmk
  go_loopw [11] (fun i wr => ∃ k : Nat, k ≤ n ∧ i = .int .i64 k ∧ FilledB w wr w.heap.size n xs k) (fun i _ => n - (intOf i).toNat)
  case atStart => exact ⟨0, Nat.zero_le _, rfl, by simpa using Blk.new w 5 (List.replicate (n * 64) z8), (Only.refl _ w).alloc (fun _ h => h) _⟩
  case round =>
    obtain ⟨k, hk, rfl, hfill⟩ := hrel
    by_cases hlt : k < n
    · obtain ⟨ad, rfl, had, hcell⟩ := hs (by omega)
      have HB : Hid (Blk wr w.heap.size 5 (xs.take (k * 64) ++ List.replicate (n * 64 - k * 64) z8)) := by
        have := hfill.1
        rw [show min (k * 64) xs.length = k * 64 by omega] at this
        exact Lib.hid this
      have HO := Lib.hid hfill.2
      clear hfill
      have HL := Lib.hid hl
      clear hl hs
      have hk0 : (0 : Int) ≤ (k : Int) := Int.natCast_nonneg _
      have hk1 : (k : Int) < (n : Int) := by omega
      have hb1 : (k : Int) * 64 ≤ (n : Int) * 64 := by omega
      have hb0 : (0 : Int) ≤ (k : Int) * 64 := by omega
      have hw1 : IntKind.i64.wrap ((k : Int) * 64) = (k : Int) * 64 := IntWalk.i64_in _ (by omega)
      have hw2 : ((k : Int) * 64).toNat = k * 64 := by omega
      have hck : ¬ (n * 64 = k * 64) := by omega
      go_wp2
      have hlen : ((xs.drop (k * 64)).take 64).length = Nat.min 64 (n * 64 - k * 64) := by
        rw [List.length_take, List.length_drop, HL.out]
      have Hlen := Lib.hid hlen
      clear hlen
      have Hpos : Hid (0 < ((xs.drop (k * 64)).take 64).length → (some ⟨w.heap.size, k * 64, none⟩ : Option Addr) = some ⟨w.heap.size, k * 64, none⟩ ∧ ∃ a, some (ad.add (k * 64)) = some a ∧ ∀ j v, ((xs.drop (k * 64)).take 64)[j]? = some v → wr.drew.cell? (a.add j) = some v) := by
        refine fun _ => ⟨rfl, _, rfl, fun j v hv => ?_⟩
        rw [List.getElem?_take] at hv
        split at hv
        · rw [List.getElem?_drop] at hv
          have e1 : (ad.add (k * 64)).add j = ad.add (k * 64 + j) := by
            unfold Addr.add
            by_cases hi : k * 64 = 0 <;> by_cases hj : j = 0 <;> simp [hi, hj, Nat.add_assoc]
          rw [e1]
          exact (HO.out.cell (p := ad.add (k * 64 + j)) (by rw [show (ad.add (k * 64 + j)).block = ad.block by unfold Addr.add; split <;> rfl]; omega)).trans (hcell _ v hv)
        · cases hv
      have Hfit : Hid (k * 64 + ((xs.drop (k * 64)).take 64).length ≤ (xs.take (k * 64) ++ List.replicate (n * 64 - k * 64) z8).length) := by
        have := HL.out
        show _ ≤ _
        simp
        omega
      have H1 : Hid (∀ v ∈ (xs.drop (k * 64)).take 64, v.oneCell' = true) := fun v hv => h1 v (List.mem_of_mem_drop (List.mem_of_mem_take hv))
      go_region_law (refine step_copy_splice (w := wr.drew) rfl (.tmp 17) (.tmp 21) 22 22 rfl 5 Tryz.underlying22 size5 (some ⟨w.heap.size, k * 64, none⟩) (some (ad.add (k * 64))) (n * 64 - k * 64) (n * 64 - k * 64) 64 64 (by simp [Act.eval, Act.put]) (by simp [Act.eval, Act.put]) w.heap.size (k * 64) _ 5 HB.out.drew ((xs.drop (k * 64)).take 64) Hlen.out Hpos.out Hfit.out H1.out w.heap.size w (HO.out.drew.toBelow fun _ h => h) (Nat.le_refl _) ?_; intro wz HBz hbz)
      have HF : Hid (FilledB w wz w.heap.size n xs (k + 1)) := by
        refine ⟨?_, Only.below hbz⟩
        have h := HBz.out
        have hl := HL.out
        rw [splice_fill xs (k * 64) (n * 64) z8 (by omega) (by omega), show k * 64 + 64 = (k + 1) * 64 by omega] at h
        exact h
      clear HBz hbz Hpos Hfit H1 Hlen HB HO hw1 hw2
      go_wp2
      go_roundw
      case rel => exact ⟨k + 1, by omega, by go_num, HF.out⟩
      case measure => simp [intOf]; omega
    · have hkm : ¬ (k : Int) < (n : Int) := by omega
      have HF := Lib.hid hfill
      have HL := Lib.hid hl
      clear hfill hl
      go_wp2
      go_ret
      obtain rfl : k = n := by omega
      have hl := HL.out
      obtain ⟨hb, ho⟩ := HF.out
      rw [List.take_of_length_le (by omega), Nat.min_eq_right (by omega), hl] at hb
      exact ⟨rfl, by simpa using hb, ho⟩

end Go.Proofs.YtbpldkhgiddmlaaGreatDoor.Dk

/-
  A clone of a slice of sectors, or of writes.
-/
set_option linter.unusedVariables false
namespace Go.Proofs.YtbpldkhgiddmlaaGreatDoor.Dk
open Go.RowKit

theorem info58 : (Tryz.prog.info? 136).map (fun i => (i.zero, i.size, i.bytes)) = some (some (.agg ((#[.int .i64 0] : Array Value) ++ Array.replicate 64 z8)), 65, 72) := by kernel_rfl

set_option maxRecDepth 100000 in
set_option maxHeartbeats 800000 in
theorem clone53_c (w : World) (b0 : Nat) (v : Value) (n : Nat) (xs : List Value) (ho : w.ownsRow b0 78 64 v n xs) (hn : n ≤ 4294967296) (h1 : ∀ v ∈ xs, v.oneCell' = true) :
    Calls Tryz.prog 36 #[v] w fun e w' => ∃ v', e = .returned v' ∧ w'.ownsRow w.heap.size 78 64 v' n xs ∧ Only (w.heap.size ≤ ·) w w' := by
  obtain ⟨i0, hi0, hz0, hz1, hz2⟩ := info_parts info53
  have hnil := fun (W : World) (a : Option Addr) (n c : Nat) => Lib.run_eql_slice_nil (P := Tryz.prog) W 74 78 a n c 0 0 Tryz.underlying74
  obtain ⟨hlen, h | ⟨g, cap, cur, rfl, hb, hg, hnc, hcm, hcs, htake⟩⟩ := ho
  · obtain ⟨rfl, rfl⟩ := h
    obtain rfl : xs = [] := List.eq_nil_of_length_eq_zero (by simpa using hlen)
    go_enter Tryz.func36, Tryz.ntmps36
    go_wp2
    go_ret
    exact ⟨_, rfl, World.ownsRow_nil _ _ _ _, Only.refl _ _⟩
  · have Ho : Hid (((w.alloc (.cells #[] 78)).drew.ownsRow w.heap.size 78 64 (.slice (some ⟨w.heap.size, 0, none⟩) 0 0) 0 []) ∧ (w.alloc (.cells #[] 78)).ownsRow w.heap.size 78 64 (.slice (some ⟨w.heap.size, 0, none⟩) 0 0) 0 []) := by
      have h := World.ownsRow_made (size := 64) (base := w.heap.size) (e := 78) w #[] 0 (Nat.le_refl _) (by simp [maxLen]) (by simp)
      exact ⟨h, h⟩
    have Hc : Hid (∀ j u, xs[j]? = some u → (w.alloc (.cells #[] 78)).cell? ((⟨g, 0, none⟩ : Addr).add j) = some u) := by
      intro j u hu
      have hlt : g < w.heap.size := (Array.getElem?_eq_some_iff.1 hg).1
      rw [World.cell?_alloc_lt w _ _ (by rw [show ((⟨g, 0, none⟩ : Addr).add j).block = g by unfold Addr.add; split <;> rfl]; exact hlt)]
      rw [Addr.add_mid, cell_of_row w g _ cur 78 (0, 0) hg, Nat.zero_add]
      rw [← htake, List.getElem?_take] at hu
      split at hu
      · simpa using hu
      · cases hu
    have Hl := Lib.hid hlen
    clear hlen htake hcs hg
    go_enter Tryz.func36, Tryz.ntmps36
    go_wp2_with (at_builtin; refine wpList_append_own _ rfl (.tmp 5) (.tmp 6) 74 rfl w.heap.size 78 i0 _ 64 64 Tryz.underlying74 hi0 hz0 hz1 hz2 (by rfl) (by omega) _ _ _ rfl Ho.out.2 ⟨g, 0, none⟩ n cap xs rfl Hl.out Hc.out h1 (by simp only [maxLen]; omega) (by omega) (by simp) ?_; intro v' w' ho' hg' _)
    go_ret
    exact ⟨_, rfl, by simpa using ho', (((Only.refl _ w).alloc (fun _ h => h) _).grown hg' (fun _ h => h) (fun k hk => by injection hk with hk; exact Nat.le_of_eq hk))⟩

end Go.Proofs.YtbpldkhgiddmlaaGreatDoor.Dk

/-
  A disk in memory; the small methods.
-/
set_option linter.unusedVariables false
namespace Go.Proofs.YtbpldkhgiddmlaaGreatDoor.Dk
open Go.RowKit

def fieldsOf (d : Dsk) (Ad As Ar : Option Addr) (cd cs cr : Nat) : List Value :=
  [.int .i64 d.limit, .slice Ad d.n cd, .slice As d.n cs, .slice Ar d.row.length cr, .int .i64 d.ops, .bool d.armed, .int .i64 d.left, .bool d.down]

structure DiskIn (w : World) (p : Nat) (d : Dsk) (seen : Bytes) (Ad As Ar : Option Addr) (cd cs cr : Nat) : Prop where
  blk : Blk w p 81 (fieldsOf d Ad As Ar cd cs cr)
  dur : w.ownsRow 0 78 64 (.slice Ad d.n cd) d.n (cb d.dur)
  seen : w.ownsRow 0 78 64 (.slice As d.n cs) d.n (cb seen)
  row : w.ownsRow 0 136 65 (.slice Ar d.row.length cr) d.row.length (rowCells d.row)
  apart : ∀ a b, Ad = some a → As = some b → a.block ≠ b.block

def Foot (p : Nat) (Ad As Ar : Option Addr) (k : Nat) : Prop := k = p ∨ (∃ a, Ad = some a ∧ a.block = k) ∨ (∃ a, As = some a ∧ a.block = k) ∨ (∃ a, Ar = some a ∧ a.block = k)

def Holds (w : World) (F : Nat → Prop) (p : Nat) (d : Dsk) : Prop :=
  d.WF ∧ ∃ Ad As Ar cd cs cr, DiskIn w p d d.see Ad As Ar cd cs cr ∧ ∀ k, Foot p Ad As Ar k → F k

theorem owns_far {w w' : World} {b : Nat} {e : TypeId} {s : Nat} {A : Option Addr} {n c : Nat} {xs : List Value} (h : w.ownsRow b e s (.slice A n c) n xs)
    (hk : ∀ a, A = some a → w'.heap[a.block]? = w.heap[a.block]?) : w'.ownsRow b e s (.slice A n c) n xs := by
  refine ⟨h.1, ?_⟩
  rcases h.2 with h0 | ⟨g, cap, cur, hv, hb, hg, r⟩
  · exact .inl h0
  · refine .inr ⟨g, cap, cur, hv, hb, ?_, r⟩
    injection hv with hA
    subst hA
    exact (hk _ rfl).trans hg
theorem owns_form {w : World} {b : Nat} {e : TypeId} {s : Nat} {A : Option Addr} {n c : Nat} {xs : List Value} (h : w.ownsRow b e s (.slice A n c) n xs) {a : Addr} (hA : A = some a) :
    ∃ g cur, a = ⟨g, 0, none⟩ ∧ Blk w g e (xs ++ cur) ∧ (xs ++ cur).length = c * s ∧ n ≤ c ∧ c ≤ maxLen := by
  subst hA
  rcases h.2 with ⟨h0, _⟩ | ⟨g, cap, cur, hv, hb, hg, hnc, hcm, hcs, ht⟩
  · cases h0
  · injection hv with h1 h2 h3
    injection h1 with h1
    subst h1 h3
    have e1 : xs ++ cur.toList.drop (n * s) = cur.toList := by rw [← ht]; exact List.take_append_drop _ _
    refine ⟨g, cur.toList.drop (n * s), rfl, ?_, by rw [e1]; simpa using hcs, hnc, hcm⟩
    rw [e1]
    simpa [Blk] using hg
theorem owns_pos {w : World} {b : Nat} {e : TypeId} {s : Nat} {A : Option Addr} {n c : Nat} {xs : List Value} (h : w.ownsRow b e s (.slice A n c) n xs) (hn : 0 < n) : ∃ g, A = some ⟨g, 0, none⟩ := by
  rcases h.2 with ⟨_, h0⟩ | ⟨g, cap, cur, hv, _⟩
  · omega
  · injection hv with h1
    exact ⟨g, h1⟩
theorem owns_cap {w : World} {b : Nat} {e : TypeId} {s : Nat} {A : Option Addr} {n c : Nat} {xs : List Value} (h : w.ownsRow b e s (.slice A n c) n xs) : n ≤ c ∧ c ≤ maxLen := by
  rcases h.2 with ⟨h0, h1⟩ | ⟨g, cap, cur, hv, hb, hg, hnc, hcm, hcs, ht⟩
  · injection h0 with _ _ h2; subst h2; subst h1; exact ⟨Nat.le_refl _, by simp [maxLen]⟩
  · injection hv with _ _ h2; subst h2; exact ⟨hnc, hcm⟩
theorem owns_mk {w : World} {g : Nat} {e : TypeId} {s n c : Nat} {xs cur : List Value} (hb : Blk w g e (xs ++ cur)) (hl : xs.length = n * s) (hc : (xs ++ cur).length = c * s) (hnc : n ≤ c) (hm : c ≤ maxLen) :
    w.ownsRow 0 e s (.slice (some ⟨g, 0, none⟩) n c) n xs :=
  ⟨hl, .inr ⟨g, c, (xs ++ cur).toArray, rfl, Nat.zero_le _, hb, hnc, hm, by simpa using hc, by rw [← hl]; simp⟩⟩

section
variable {w w' : World} {F G : Nat → Prop} {p : Nat} {d : Dsk} {seen : Bytes} {Ad As Ar : Option Addr} {cd cs cr : Nat}
theorem DiskIn.ne_d (h : DiskIn w p d seen Ad As Ar cd cs cr) : ∀ a, Ad = some a → a.block ≠ p := fun a ha => by
  obtain ⟨g, cur, rfl, hb, _⟩ := owns_form h.dur ha
  exact hb.ne h.blk (by decide)
theorem DiskIn.ne_s (h : DiskIn w p d seen Ad As Ar cd cs cr) : ∀ a, As = some a → a.block ≠ p := fun a ha => by
  obtain ⟨g, cur, rfl, hb, _⟩ := owns_form h.seen ha
  exact hb.ne h.blk (by decide)
theorem DiskIn.ne_r (h : DiskIn w p d seen Ad As Ar cd cs cr) : ∀ a, Ar = some a → a.block ≠ p := fun a ha => by
  obtain ⟨g, cur, rfl, hb, _⟩ := owns_form h.row ha
  exact hb.ne h.blk (by decide)
theorem DiskIn.ne_rd (h : DiskIn w p d seen Ad As Ar cd cs cr) : ∀ a b, Ar = some a → Ad = some b → a.block ≠ b.block := fun a b ha hb' => by
  obtain ⟨g, cur, rfl, hb, _⟩ := owns_form h.row ha
  obtain ⟨g', cur', rfl, hb'', _⟩ := owns_form h.dur hb'
  exact hb.ne hb'' (by decide)
theorem DiskIn.ne_rs (h : DiskIn w p d seen Ad As Ar cd cs cr) : ∀ a b, Ar = some a → As = some b → a.block ≠ b.block := fun a b ha hb' => by
  obtain ⟨g, cur, rfl, hb, _⟩ := owns_form h.row ha
  obtain ⟨g', cur', rfl, hb'', _⟩ := owns_form h.seen hb'
  exact hb.ne hb'' (by decide)
theorem DiskIn.lt (h : DiskIn w p d seen Ad As Ar cd cs cr) : ∀ k, Foot p Ad As Ar k → k < w.heap.size := by
  rintro k (rfl | ⟨a, ha, rfl⟩ | ⟨a, ha, rfl⟩ | ⟨a, ha, rfl⟩)
  · exact h.blk.lt
  · obtain ⟨g, cur, rfl, hb, _⟩ := owns_form h.dur ha; exact hb.lt
  · obtain ⟨g, cur, rfl, hb, _⟩ := owns_form h.seen ha; exact hb.lt
  · obtain ⟨g, cur, rfl, hb, _⟩ := owns_form h.row ha; exact hb.lt
theorem DiskIn.keep (h : DiskIn w p d seen Ad As Ar cd cs cr) (hk : ∀ k, Foot p Ad As Ar k → w'.heap[k]? = w.heap[k]?) : DiskIn w' p d seen Ad As Ar cd cs cr :=
  ⟨(hk p (.inl rfl)).trans h.blk, owns_far h.dur fun a ha => hk _ (.inr (.inl ⟨a, ha, rfl⟩)), owns_far h.seen fun a ha => hk _ (.inr (.inr (.inl ⟨a, ha, rfl⟩))),
    owns_far h.row fun a ha => hk _ (.inr (.inr (.inr ⟨a, ha, rfl⟩))), h.apart⟩
theorem DiskIn.only (h : DiskIn w p d seen Ad As Ar cd cs cr) (ho : Only G w w') (hG : ∀ k, Foot p Ad As Ar k → ¬ G k) : DiskIn w' p d seen Ad As Ar cd cs cr :=
  h.keep fun k hk => ho.block k (hG k hk)
theorem DiskIn.drew (h : DiskIn w p d seen Ad As Ar cd cs cr) : DiskIn w.drew p d seen Ad As Ar cd cs cr := h.keep fun _ _ => rfl
theorem DiskIn.alloc (h : DiskIn w p d seen Ad As Ar cd cs cr) (o : Obj) : DiskIn (w.alloc o) p d seen Ad As Ar cd cs cr := h.keep fun k hk => Below.heap_alloc w o k (h.lt k hk)
/-- A field that is one word of its own. -/
theorem DiskIn.field (h : DiskIn w p d seen Ad As Ar cd cs cr) (i : Nat) (v : Value) (d' : Dsk) (hn : d'.n = d.n) (hd : d'.dur = d.dur) (hr : d'.row = d.row)
    (hf : fieldsOf d' Ad As Ar cd cs cr = (fieldsOf d Ad As Ar cd cs cr).set i v) : DiskIn (w.setCell ⟨p, i, none⟩ v) p d' seen Ad As Ar cd cs cr := by
  have far : ∀ a : Addr, a.block ≠ p → (w.setCell ⟨p, i, none⟩ v).heap[a.block]? = w.heap[a.block]? := fun a ha => Below.heap_setCell w ⟨p, i, none⟩ v _ ha
  refine ⟨by rw [hf]; exact h.blk.set_ i v, ?_, ?_, ?_, h.apart⟩
  · rw [hn, hd]; exact owns_far h.dur fun a ha => far a (h.ne_d a ha)
  · rw [hn]; exact owns_far h.seen fun a ha => far a (h.ne_s a ha)
  · rw [hr]; exact owns_far h.row fun a ha => far a (h.ne_r a ha)
theorem Holds.keep (h : Holds w F p d) (ho : Only G w w') (hG : ∀ k, F k → k < w.heap.size → ¬ G k) : Holds w' F p d := by
  obtain ⟨hw, Ad, As, Ar, cd, cs, cr, hd, hf⟩ := h
  exact ⟨hw, Ad, As, Ar, cd, cs, cr, hd.only ho (fun k hk => hG k (hf k hk) (hd.lt k hk)), hf⟩
theorem Holds.mono (h : Holds w F p d) (hG : ∀ k, k < w.heap.size → F k → G k) : Holds w G p d := by
  obtain ⟨hw, Ad, As, Ar, cd, cs, cr, hd, hf⟩ := h
  exact ⟨hw, Ad, As, Ar, cd, cs, cr, hd, fun k hk => hG k (hd.lt k hk) (hf k hk)⟩
theorem Holds.drew (h : Holds w F p d) : Holds w.drew F p d := h.keep (G := fun _ => False) ((Only.refl _ _).drew) (fun _ _ _ h => h)
theorem Holds.drewN (h : Holds w F p d) (n : Nat) : Holds (w.drewN n) F p d := h.keep (G := fun _ => False) ((Only.refl _ _).drewN n) (fun _ _ _ h => h)
theorem Holds.alloc (h : Holds w F p d) (o : Obj) : Holds (w.alloc o) F p d := h.keep (G := (w.heap.size ≤ ·)) ((Only.refl _ _).alloc (fun _ h => h) o) (fun _ _ h h' => by omega)
end

theorem Size_c (w : World) (F : Nat → Prop) (p : Nat) (d : Dsk) (h : Holds w F p d) :
    Calls Tryz.prog 21 #[.pointer (some ⟨p, 0, none⟩)] w fun e w' => e = .returned (.int .i64 d.n) ∧ w = w' := by
  obtain ⟨hw, Ad, As, Ar, cd, cs, cr, hd, hf⟩ := h
  have h2 : w.cell? ⟨p, 2, none⟩ = some (.slice As d.n cs) := hd.blk.cell 2
  clear hw hd hf
  go_enter Tryz.func21, Tryz.ntmps21
  go_wp2
  go_ret
  exact ⟨rfl, rfl⟩
theorem Pending_c (w : World) (F : Nat → Prop) (p : Nat) (d : Dsk) (h : Holds w F p d) :
    Calls Tryz.prog 52 #[.pointer (some ⟨p, 0, none⟩)] w fun e w' => e = .returned (.int .i64 d.row.length) ∧ w = w' := by
  obtain ⟨hw, Ad, As, Ar, cd, cs, cr, hd, hf⟩ := h
  have h2 : w.cell? ⟨p, 3, none⟩ = some (.slice Ar d.row.length cr) := hd.blk.cell 3
  clear hw hd hf
  go_enter Tryz.func52, Tryz.ntmps52
  go_wp2
  go_ret
  exact ⟨rfl, rfl⟩
theorem Down_c (w : World) (F : Nat → Prop) (p : Nat) (d : Dsk) (h : Holds w F p d) :
    Calls Tryz.prog 53 #[.pointer (some ⟨p, 0, none⟩)] w fun e w' => e = .returned (.bool d.down) ∧ w = w' := by
  obtain ⟨hw, Ad, As, Ar, cd, cs, cr, hd, hf⟩ := h
  have h2 : w.cell? ⟨p, 7, none⟩ = some (.bool d.down) := hd.blk.cell 7
  clear hw hd hf
  go_enter Tryz.func53, Tryz.ntmps53
  go_wp2
  go_ret
  exact ⟨rfl, rfl⟩
theorem Ops_c (w : World) (F : Nat → Prop) (p : Nat) (d : Dsk) (h : Holds w F p d) :
    Calls Tryz.prog 33 #[.pointer (some ⟨p, 0, none⟩)] w fun e w' => e = .returned (.int .i64 d.ops) ∧ w = w' := by
  obtain ⟨hw, Ad, As, Ar, cd, cs, cr, hd, hf⟩ := h
  have h2 : w.cell? ⟨p, 4, none⟩ = some (.int .i64 d.ops) := hd.blk.cell 4
  clear hw hd hf
  go_enter Tryz.func33, Tryz.ntmps33
  go_wp2
  go_ret
  exact ⟨rfl, rfl⟩
theorem Limit_c (w : World) (F : Nat → Prop) (p : Nat) (d : Dsk) (h : Holds w F p d) :
    Calls Tryz.prog 23 #[.pointer (some ⟨p, 0, none⟩)] w fun e w' => e = .returned (.int .i64 d.limit) ∧ w = w' := by
  obtain ⟨hw, Ad, As, Ar, cd, cs, cr, hd, hf⟩ := h
  have h2 : w.cell? ⟨p, 0, none⟩ = some (.int .i64 d.limit) := hd.blk.cell 0
  clear hw hd hf
  go_enter Tryz.func23, Tryz.ntmps23
  go_wp2
  go_ret
  exact ⟨rfl, rfl⟩

theorem op_c (w : World) (F : Nat → Prop) (p : Nat) (d : Dsk) (h : Holds w F p d) (ho : d.ops < 4611686018427387904) :
    Calls Tryz.prog 80 #[.pointer (some ⟨p, 0, none⟩)] w fun e w' => e = .returned (.int .i64 d.op.2) ∧ Holds w' F p d.op.1 ∧ Only F w w' := by
  obtain ⟨hw, Ad, As, Ar, cd, cs, cr, hd, hf⟩ := h
  have h4 : w.cell? ⟨p, 4, none⟩ = some (.int .i64 d.ops) := hd.blk.cell 4
  have h5 : w.cell? ⟨p, 5, none⟩ = some (.bool d.armed) := hd.blk.cell 5
  have h6 : w.cell? ⟨p, 6, none⟩ = some (.int .i64 d.left) := hd.blk.cell 6
  have h7 : w.cell? ⟨p, 7, none⟩ = some (.bool d.down) := hd.blk.cell 7
  have hfz : ∀ i, w.frozen? ⟨p, i, none⟩ = false := hd.blk.frozen
  have Hd := Lib.hid hd
  have Hf := Lib.hid hf
  have hl := hw.left
  have Hw := Lib.hid hw
  clear hd hf hw
  have hp : ∀ {k}, k = p → F k := fun h => Hf.out _ (.inl h)
  obtain ⟨limit, n, dur, row, ops, armed, left, down⟩ := d
  replace ho : (ops : Int) < 4611686018427387904 := by show (ops : Int) < _; have : ops < 4611686018427387904 := ho; omega
  replace hl : (left : Int) < 9223372036854775808 := by have : left < 9223372036854775808 := hl; omega
  cases armed
  · go_enter Tryz.func80, Tryz.ntmps80
    go_wp2
    go_ret
    refine ⟨rfl, ⟨Hw.out.op, Ad, As, Ar, cd, cs, cr, ?_, Hf.out⟩, (Only.refl _ _).setCell (hp rfl) _⟩
    exact Hd.out.field 4 _ _ rfl rfl rfl rfl
  · by_cases hlt : 0 < left
    · have hlt' : (0 : Int) < (left : Int) := by omega
      have e : Dsk.op { limit, n, dur, row, ops, armed := true, left, down } = ({ limit, n, dur, row, ops := ops + 1, armed := true, left := left - 1, down }, 0) := by simp [Dsk.op, hlt]
      have He := Lib.hid e
      clear e
      go_enter Tryz.func80, Tryz.ntmps80
      go_wp2
      go_ret
      rw [He.out]
      refine ⟨rfl, ⟨?_, Ad, As, Ar, cd, cs, cr, ?_, Hf.out⟩, ((Only.refl _ _).setCell (hp rfl) _).setCell (hp rfl) _⟩
      · have := Hw.out.op; rw [He.out] at this; exact this
      · have h1 := Hd.out.field 4 (.int .i64 (ops + 1)) { limit, n, dur, row, ops := ops + 1, armed := true, left, down } rfl rfl rfl rfl
        refine h1.field 6 _ { limit, n, dur, row, ops := ops + 1, armed := true, left := left - 1, down } rfl rfl rfl ?_
        simp [fieldsOf]
        omega
    · obtain rfl : left = 0 := by omega
      go_enter Tryz.func80, Tryz.ntmps80
      go_wp2
      go_ret
      refine ⟨rfl, ⟨Hw.out.op, Ad, As, Ar, cd, cs, cr, ?_, Hf.out⟩, ((Only.refl _ _).setCell (hp rfl) _).setCell (hp rfl) _⟩
      have h1 := Hd.out.field 4 (.int .i64 (ops + 1)) { limit, n, dur, row, ops := ops + 1, armed := true, left := 0, down } rfl rfl rfl rfl
      exact h1.field 7 (.bool true) { limit, n, dur, row, ops := ops + 1, armed := true, left := 0, down := true } rfl rfl rfl rfl

end Go.Proofs.YtbpldkhgiddmlaaGreatDoor.Dk

/-
  The methods of a disk that have no loop of their own.
-/
set_option linter.unusedVariables false
namespace Go.Proofs.YtbpldkhgiddmlaaGreatDoor.Dk
open Go.RowKit

theorem owns_slice {w : World} {b : Nat} {e : TypeId} {s : Nat} {v : Value} {n : Nat} {xs : List Value} (h : w.ownsRow b e s v n xs) :
    ∃ A c, v = .slice A n c ∧ ∀ a, A = some a → b ≤ a.block := by
  rcases h.2 with ⟨rfl, rfl⟩ | ⟨g, cap, cur, rfl, hb, _⟩
  · exact ⟨none, 0, rfl, fun a h => by cases h⟩
  · exact ⟨_, cap, rfl, fun a h => by cases h; exact hb⟩
theorem owns_base {w : World} {b b' : Nat} {e : TypeId} {s : Nat} {v : Value} {n : Nat} {xs : List Value} (h : w.ownsRow b e s v n xs) (hb : b' ≤ b) : w.ownsRow b' e s v n xs := by
  refine ⟨h.1, ?_⟩
  rcases h.2 with h0 | ⟨g, cap, cur, hv, hg, r⟩
  · exact .inl h0
  · exact .inr ⟨g, cap, cur, hv, by omega, r⟩

theorem has_c (w : World) (F : Nat → Prop) (p : Nat) (d : Dsk) (h : Holds w F p d) (at_ many : Int) (ha : -9223372036854775808 ≤ at_) (ha' : at_ ≤ 9223372036854775807) :
    Calls Tryz.prog 75 #[.pointer (some ⟨p, 0, none⟩), .int .i64 at_, .int .i64 many] w fun e w' => e = .returned (.bool (d.has at_ many)) ∧ w = w' := by
  have hn : (d.n : Int) ≤ 65536 := by have := h.1.nl; have := h.1.lim; omega
  have hn0 : (0 : Int) ≤ (d.n : Int) := by omega
  by_cases h0 : 0 ≤ at_
  · by_cases h1 : 0 ≤ many
    · by_cases h2 : many ≤ d.n - at_
      all_goals
        have e : d.has at_ many = decide (many ≤ d.n - at_) := by simp [Dsk.has, h0, h1]
        have He := Lib.hid e
        clear e
        go_enter Tryz.func75, Tryz.ntmps75
        go_wp2_with (go_at_call 21; refine (Size_c _ _ _ _ h).mono ?_; rintro e w' ⟨rfl, rfl⟩)
        go_ret
        rw [He.out]
        simp [h2]
    · have e : d.has at_ many = false := by simp [Dsk.has, h0]; omega
      have He := Lib.hid e
      clear e
      go_enter Tryz.func75, Tryz.ntmps75
      go_wp2
      go_ret
      rw [He.out]
      simp
  · have e : d.has at_ many = false := by simp [Dsk.has]; omega
    have He := Lib.hid e
    clear e
    go_enter Tryz.func75, Tryz.ntmps75
    go_wp2
    go_ret
    rw [He.out]
    simp

theorem Arm_c (w : World) (F : Nat → Prop) (p : Nat) (d : Dsk) (h : Holds w F p d) (n : Int) (hn : n ≤ 9223372036854775807) :
    Calls Tryz.prog 10 #[.pointer (some ⟨p, 0, none⟩), .int .i64 n] w fun e w' => e = .returned (.tuple #[]) ∧ Holds w' F p (d.arm n) ∧ Only F w w' := by
  obtain ⟨hw, Ad, As, Ar, cd, cs, cr, hd, hf⟩ := h
  have h5 : w.cell? ⟨p, 5, none⟩ = some (.bool d.armed) := hd.blk.cell 5
  have h6 : w.cell? ⟨p, 6, none⟩ = some (.int .i64 d.left) := hd.blk.cell 6
  have hfz : ∀ i, w.frozen? ⟨p, i, none⟩ = false := hd.blk.frozen
  have Hd := Lib.hid hd
  have Hf := Lib.hid hf
  have Hw := Lib.hid hw
  clear hd hf hw
  have hp : ∀ {k}, k = p → F k := fun h => Hf.out _ (.inl h)
  by_cases h0 : 0 ≤ n
  · have hm : ¬ n < 0 := by omega
    have E : Hid (d.arm n = { d with armed := true, left := n.toNat }) := by show _ = _; simp [Dsk.arm, h0]
    go_enter Tryz.func10, Tryz.ntmps10
    go_wp2
    all_goals
      go_end0
      rw [E.out]
      refine ⟨rfl, ⟨⟨Hw.out.nl, Hw.out.lim, Hw.out.len, Hw.out.fits, by show n.toNat < _; omega⟩, Ad, As, Ar, cd, cs, cr, ?_, Hf.out⟩, ((Only.refl _ _).setCell (hp rfl) _).setCell (hp rfl) _⟩
      have h1 := Hd.out.field 5 (.bool true) { d with armed := true } rfl rfl rfl rfl
      refine h1.field 6 _ { d with armed := true, left := n.toNat } rfl rfl rfl ?_
      simp [fieldsOf]
      try omega
  · have hm : n ≤ 0 := by omega
    have hm' : n < 0 := by omega
    have E : Hid (d.arm n = { d with armed := false, left := 0 }) := by show _ = _; simp [Dsk.arm, h0]; omega
    go_enter Tryz.func10, Tryz.ntmps10
    go_wp2
    all_goals
      go_end0
      rw [E.out]
      refine ⟨rfl, ⟨⟨Hw.out.nl, Hw.out.lim, Hw.out.len, Hw.out.fits, by show 0 < _; omega⟩, Ad, As, Ar, cd, cs, cr, ?_, Hf.out⟩, ((Only.refl _ _).setCell (hp rfl) _).setCell (hp rfl) _⟩
      have h1 := Hd.out.field 5 (.bool false) { d with armed := false } rfl rfl rfl rfl
      exact h1.field 6 _ { d with armed := false, left := 0 } rfl rfl rfl (by simp [fieldsOf] <;> omega)

theorem Image_c (w : World) (F : Nat → Prop) (p : Nat) (d : Dsk) (h : Holds w F p d) :
    Calls Tryz.prog 54 #[.pointer (some ⟨p, 0, none⟩)] w fun e w' => e = .returned (.slice (some ⟨w.heap.size, 0, none⟩) (d.n * 64) (d.n * 64)) ∧ Blk w' w.heap.size 5 (cb d.see) ∧ Only (w.heap.size ≤ ·) w w' := by
  obtain ⟨hw, Ad, As, Ar, cd, cs, cr, hd, hf⟩ := h
  have h2 : w.cell? ⟨p, 2, none⟩ = some (.slice As d.n cs) := hd.blk.cell 2
  have Hl : Hid ((cb d.see).length = d.n * 64) := Lib.hid (by rw [cb_length, hw.see])
  have Hs : Hid (0 < d.n → ∃ ad, As = some ad ∧ ad.block < w.heap.size ∧ ∀ j u, (cb d.see)[j]? = some u → w.cell? (ad.add j) = some u) := by
    intro hn
    obtain ⟨g, hg⟩ := owns_pos hd.seen hn
    obtain ⟨g', cur, hgg, hb, _⟩ := owns_form hd.seen hg
    refine ⟨_, hg, ?_, ?_⟩
    · rw [hgg]; exact hb.lt
    · intro j u hu
      rw [hgg, Addr.add_mid, hb.cell, Nat.zero_add, List.getElem?_append_left (List.getElem?_eq_some_iff.1 hu).1]
      exact hu
  have hn : d.n ≤ 4294967296 := by have := hw.nl; have := hw.lim; omega
  clear hw hd hf
  go_enter Tryz.func54, Tryz.ntmps54
  go_wp2_with (go_at_call 74; refine (bytesOf_c _ _ _ _ _ Hl.out Hs.out hn (cb_one _)).mono ?_; rintro e w' ⟨rfl, hb⟩)
  go_ret
  exact ⟨rfl, hb⟩

/-- The sectors of bytes, their number and their cells behind letters. -/
theorem sectorsOf_x (w : World) (A : Option Addr) (n c : Nat) (xs : Bytes) (hs : Src w (w.heap.size ≤ ·) A n (cb xs)) (hc : n ≤ c) (hn : n ≤ 4294967296) (hm : c ≤ maxLen) :
    Calls Tryz.prog 35 #[.slice A n c] w fun e w' => ∃ (M : Nat) (X : Bytes), e = .returned (.slice (some ⟨w.heap.size, 0, none⟩) M M) ∧
      Hid (X = pad xs ∧ M = (xs.length + 63) / 64 ∧ Blk w' w.heap.size 78 (cb X) ∧ Only (w.heap.size ≤ ·) w w') := by
  refine (sectorsOf_c w A n c (cb xs) hs hc hn hm _ rfl (cb_one _)).mono ?_
  rintro e w' ⟨he, hb, ho⟩
  have hl : xs.length = n := by have := hs.1; rwa [cb_length] at this
  refine ⟨(n + 63) / 64, pad xs, he, rfl, by rw [hl], ?_, ho⟩
  rw [pad, cb_append, cb_replicate, hl]
  exact hb

/-- A clone, its value written out. -/
theorem clone53_x (w : World) (b0 : Nat) (v : Value) (n : Nat) (xs : List Value) (ho : w.ownsRow b0 78 64 v n xs) (hn : n ≤ 4294967296) (h1 : ∀ v ∈ xs, v.oneCell' = true) :
    Calls Tryz.prog 36 #[v] w fun e w' => ∃ A c, e = .returned (.slice A n c) ∧ Hid (w'.ownsRow w.heap.size 78 64 (.slice A n c) n xs ∧ (∀ a, A = some a → w.heap.size ≤ a.block) ∧ Only (w.heap.size ≤ ·) w w') := by
  refine (clone53_c w b0 v n xs ho hn h1).mono ?_
  rintro e w' ⟨v', he, h, hO⟩
  obtain ⟨A, c, rfl, hA⟩ := owns_slice h
  exact ⟨A, c, he, h, hA, hO⟩
theorem load_eq (xs : Bytes) (limit : Int) (T L : Nat) (hL : cut limit = L) (hT : min T xs.length = min (L * 64) xs.length) :
    Dsk.load xs limit = { limit := L, n := ((xs.take T).length + 63) / 64, dur := pad (xs.take T), row := [], ops := 0, armed := false, left := 0, down := false } := by
  have : xs.take T = xs.take (L * 64) := by rw [List.take_eq_take_iff]; exact hT
  rw [this]
  simp [Dsk.load, hL]

theorem load_holds {w w1 w2 : World} {F : Nat → Prop} (hF : ∀ k, w.heap.size ≤ k → F k) {xs X : Bytes} {M : Nat} {A2 : Option Addr} {c2 : Nat}
    (H1 : X = pad (xs) ∧ M = (xs.length + 63) / 64 ∧ Blk w1 w.heap.size 78 (cb X) ∧ Only (w.heap.size ≤ ·) w w1) {d : Dsk} (hd : d.WF) (l : Int) (hl : l = (d.limit : Int))
    (e1 : d.n = M) (e2 : d.dur = X) (e3 : d.row = []) (e4 : d.ops = 0) (e5 : d.armed = false) (e6 : d.left = 0) (e7 : d.down = false)
    (H2 : w1.ownsRow 0 78 64 (.slice (some ⟨w.heap.size, 0, none⟩) M M) M (cb X))
    (H3 : w2.ownsRow w1.heap.size 78 64 (.slice A2 M c2) M (cb X) ∧ (∀ a, A2 = some a → w1.heap.size ≤ a.block) ∧ Only (w1.heap.size ≤ ·) w1 w2) :
    Holds (w2.alloc (.cells #[.int .i64 l, .slice (some ⟨w.heap.size, 0, none⟩) M M, .slice A2 M c2, .slice none 0 0, .int .i64 0, .bool false, .int .i64 0, .bool false] 81)) F w2.heap.size d ∧
      Only (w.heap.size ≤ ·) w (w2.alloc (.cells #[.int .i64 l, .slice (some ⟨w.heap.size, 0, none⟩) M M, .slice A2 M c2, .slice none 0 0, .int .i64 0, .bool false, .int .i64 0, .bool false] 81)) := by
  obtain ⟨h31, h32, h33⟩ := H3
  have hlt := H1.2.2.1.lt
  have hb1 := h33.block w.heap.size (by omega)
  have hs1 := H1.2.2.2.size
  have hs2 := h33.size
  have hsee : d.see = X := by rw [Dsk.see, e3]; exact e2
  refine ⟨⟨hd, some ⟨w.heap.size, 0, none⟩, A2, none, M, c2, 0, ⟨?_, ?_, ?_, ?_, ?_⟩, ?_⟩, ?_⟩
  · have h := Blk.new w2 81 (fieldsOf d (some ⟨w.heap.size, 0, none⟩) A2 none M c2 0)
    simp only [fieldsOf, e1, e3, e4, e5, e6, e7] at h ⊢
    rw [← hl] at h ⊢
    exact h
  · rw [e1, e2]
    refine owns_far H2 fun a ha => ?_
    cases ha
    exact (Below.heap_alloc w2 _ _ (show w.heap.size < _ by omega)).trans hb1
  · rw [e1, hsee]
    exact (owns_base h31 (Nat.zero_le _)).alloc _
  · rw [e3]
    exact World.ownsRow_nil _ _ _ _
  · intro a b ha hb
    cases ha
    have := h32 b hb
    show w.heap.size ≠ b.block
    omega
  · rintro k (rfl | ⟨a, ha, rfl⟩ | ⟨a, ha, rfl⟩ | ⟨a, ha, rfl⟩)
    · exact hF _ (by omega)
    · cases ha; exact hF _ (Nat.le_refl _)
    · have := h32 a ha; exact hF _ (by omega)
    · cases ha
  · exact ((H1.2.2.2.trans (h33.mono fun k (hk : w1.heap.size ≤ k) => Nat.le_trans hs1 hk))).alloc (fun _ h => h) _

set_option maxRecDepth 100000 in
set_option maxHeartbeats 1600000 in
theorem Load_c (w : World) (F : Nat → Prop) (hF : ∀ k, w.heap.size ≤ k → F k) (A : Option Addr) (c : Nat) (xs : Bytes) (limit : Int) (hs : Src w (w.heap.size ≤ ·) A xs.length (cb xs)) (hc : xs.length ≤ c) (hm : c ≤ maxLen) :
    Calls Tryz.prog 7 #[.slice A xs.length c, .int .i64 limit] w fun e w' => ∃ p, e = .returned (.pointer (some ⟨p, 0, none⟩)) ∧ Holds w' F p (Dsk.load xs limit) ∧ Only (w.heap.size ≤ ·) w w' := by
  have Hsrc : Hid (∀ m, m ≤ xs.length → Src w (w.heap.size ≤ ·) A m (cb (xs.take m))) := by
    intro m hm
    refine ⟨by rw [cb_length, List.length_take]; omega, fun h0 => ?_⟩
    obtain ⟨ad, hA, hb, hc⟩ := hs.2 (by omega)
    refine ⟨ad, hA, hb, fun j u hu => hc j u ?_⟩
    rw [cb_take, List.getElem?_take] at hu
    split at hu
    · exact hu
    · cases hu
  have Hm := Lib.hid hm
  have HF := Lib.hid hF
  clear hs hm hF
  go_enter Tryz.func7, Tryz.ntmps7
  go_wp2_with fail
  all_goals
    (refine (sectorsOf_x w A _ c (xs.take _) (Hsrc.out _ ?_) ?_ ?_ Hm.out).mono ?_)
  all_goals first | omega | skip
  all_goals
    rintro e w1 ⟨M, X, rfl, H1⟩
    have Hlim : Hid (Dsk.load xs limit = { limit := cut limit, n := M, dur := X, row := [], ops := 0, armed := false, left := 0, down := false }) := by
      obtain ⟨e1, e2, _⟩ := H1.out
      rw [e1, e2]
      exact load_eq xs limit _ _ rfl (by simp only [cut]; omega)
    have Hwf : Hid (Dsk.load xs limit).WF := Dsk.WF.load xs limit
    have Hlen : Hid (M ≤ 65536 ∧ X.length = M * 64) := by
      have := Hwf.out
      rw [Hlim.out] at this
      have h1 := this.nl
      have h2 := this.lim
      have h3 := this.len
      simp only at h1 h2 h3
      exact ⟨by omega, h3⟩
    have H2 : Hid (w1.ownsRow 0 78 64 (.slice (some ⟨w.heap.size, 0, none⟩) M M) M (cb X)) :=
      owns_mk (cur := []) (by rw [List.append_nil]; exact H1.out.2.2.1) (by rw [cb_length]; exact Hlen.out.2) (by rw [List.append_nil, cb_length]; exact Hlen.out.2) (Nat.le_refl _) (by have := Hlen.out.1; simp only [maxLen]; omega)
    have hM : M ≤ 4294967296 := by have := Hlen.out.1; omega
    go_wp2_with (go_at_call 36; refine (clone53_x _ _ _ _ _ H2.out hM (cb_one _)).mono ?_; rintro e w2 ⟨A2, c2, rfl, H3⟩)
    go_ret
    exact ⟨_, rfl, load_holds HF.out H1.out Hwf.out _ (by rw [Hlim.out]; simp only [cut]; omega) (by rw [Hlim.out]) (by rw [Hlim.out]) rfl rfl rfl rfl rfl H2.out H3.out⟩
end Go.Proofs.YtbpldkhgiddmlaaGreatDoor.Dk

/-
  Sync of a disk.
-/
set_option linter.unusedVariables false
namespace Go.Proofs.YtbpldkhgiddmlaaGreatDoor.Dk
open Go.RowKit

theorem size53 : (Tryz.prog.info? 78).map (·.size) = some 64 := by kernel_rfl
theorem size58 : (Tryz.prog.info? 136).map (·.size) = some 65 := by kernel_rfl
def Z58 : Array Value := (#[.int .i64 0] : Array Value) ++ Array.replicate 64 z8
theorem Z58_size : Z58.size = 65 := by simp [Z58]
theorem zero58 : ∀ w : World, (zeroValue 136).run Tryz.prog w = .ok (.agg Z58) w := (zero_of_info (n := 65) (by kernel_rfl)).1
theorem wrCells_length {e : Wr} (h : e.2.length = 64) : (wrCells e).length = 65 := by simp [wrCells, cb_length, h]
theorem wrCells_one (e : Wr) : ∀ v ∈ wrCells e, v.oneCell' = true := by
  intro v hv
  simp only [wrCells, List.mem_cons] at hv
  rcases hv with rfl | hv
  · rfl
  · exact cb_one _ v hv

/-- The disk in the midst of a loop over its row: the durable bytes are X now, the seen ones Y. -/
structure Run (w wk : World) (F : Nat → Prop) (p : Nat) (d : Dsk) (X Y : Bytes) (Ad As Ar : Option Addr) (cd cs cr : Nat) : Prop where
  disk : DiskIn wk p { d with dur := X } Y Ad As Ar cd cs cr
  only : Only F w wk

section
variable {w wk : World} {F : Nat → Prop} {p : Nat} {d : Dsk} {X Y : Bytes} {Ad As Ar : Option Addr} {cd cs cr : Nat}
/-- A write of the row, where it lies. -/
theorem row_at (hd : DiskIn wk p d Y Ad As Ar cd cs cr) (hf : Fits d.n d.row) {k : Nat} (hk : k < d.row.length) :
    ∃ g, Ar = some ⟨g, 0, none⟩ ∧ g < wk.heap.size ∧ wk.rangeAt g (k * 65) (wrCells d.row[k]) := by
  obtain ⟨g, hg⟩ := owns_pos hd.row (by omega)
  obtain ⟨g', cur, hgg, hb, _⟩ := owns_form hd.row hg
  cases hgg
  refine ⟨g, hg, hb.lt, ?_⟩
  have h := hb.range (k * 65) 65
  have e : ((rowCells d.row ++ cur).drop (k * 65)).take 65 = wrCells d.row[k] := by
    rw [← rowCells_at d.row k hk hf]
    have hl := rowCells_length d.row hf
    rw [List.drop_append_of_le_length (by omega), List.take_append_of_le_length (by rw [List.length_drop]; omega)]
  rw [e] at h
  exact h
theorem Run.step (h : Run w wk F p d X Y Ad As Ar cd cs cr) (hF : ∀ k, w.heap.size ≤ k → F k) (hf : ∀ k, Foot p Ad As Ar k → F k) (o : Obj) {e : Wr} (hl : X.length = d.n * 64) (he : e.1 < d.n) (he2 : e.2.length = 64) {g : Nat} (hg : Ad = some ⟨g, 0, none⟩) :
    Run w ((wk.alloc o).drew.setCells g (e.1 * 64) (cb e.2)) F p d (put X e) Y Ad As Ar cd cs cr := by
  obtain ⟨g', cur, hgg, hb, hbl, hnc, hcm⟩ := owns_form h.disk.dur hg
  cases hgg
  have hd1 : DiskIn (wk.alloc o).drew p { d with dur := X } Y Ad As Ar cd cs cr := (h.disk.alloc o).drew
  have hb1 : Blk (wk.alloc o).drew g 78 (cb X ++ cur) := (hb.alloc o).drew
  have hfar : ∀ k, k ≠ g → ((wk.alloc o).drew.setCells g (e.1 * 64) (cb e.2)).heap[k]? = (wk.alloc o).drew.heap[k]? := fun k hk => by
    have : ∀ (vs : List Value) (o : Nat) (W : World), (W.setCells g o vs).heap[k]? = W.heap[k]? := by
      intro vs
      induction vs with
      | nil => intro o W; rfl
      | cons v r ih => intro o W; rw [World.setCells, ih]; exact Below.heap_setCell W ⟨g, o, none⟩ v k hk
    exact this _ _ _
  have hcl : (cb e.2).length = 64 := by rw [cb_length, he2]
  have hXl : (cb X).length = d.n * 64 := by rw [cb_length, hl]
  have hb2 : Blk ((wk.alloc o).drew.setCells g (e.1 * 64) (cb e.2)) g 78 (cb (put X e) ++ cur) := by
    have := hb1.setN (cb e.2) (e.1 * 64) (by rw [List.length_append, hXl, hcl]; omega)
    rw [over_append _ _ _ _ (by rw [hXl, hcl]; omega), ← cb_over] at this
    exact this
  have hpl : (put X e).length = d.n * 64 := (over_length _ _ _ (by omega)).trans hl
  refine ⟨⟨(hfar p (by have := hd1.ne_d _ hg; exact this.symm)).trans hd1.blk, ?_, ?_, ?_, hd1.apart⟩, ((h.only.alloc hF o).drew).setCells g _ _ (hf g (.inr (.inl ⟨_, hg, rfl⟩)))⟩
  · rw [hg]
    exact owns_mk hb2 (by rw [cb_length, hpl]) (by rw [List.length_append, cb_length, hpl, ← hbl, List.length_append, hXl]) hnc hcm
  · exact owns_far hd1.seen fun a ha => hfar _ (fun e => hd1.apart _ a hg ha e.symm)
  · exact owns_far hd1.row fun a ha => hfar _ (fun e => hd1.ne_rd a _ ha hg e)
theorem dur_at (hd : DiskIn wk p d Y Ad As Ar cd cs cr) {e : Wr} (hl : d.dur.length = d.n * 64) (he : e.1 < d.n) :
    ∃ g, Ad = some ⟨g, 0, none⟩ ∧ g < wk.heap.size ∧ g ≠ p ∧ wk.there g (e.1 * 64) 64 := by
  obtain ⟨g, hg⟩ := owns_pos hd.dur (by omega)
  obtain ⟨g', cur, hgg, hb, hbl, hnc, _⟩ := owns_form hd.dur hg
  cases hgg
  exact ⟨g, hg, hb.lt, hd.ne_d _ hg, hb.there _ _ (by rw [List.length_append, cb_length, hl]; omega)⟩
end

/-- What the region that copies a write's sector reads, and where it stores. -/
def Ready (p gd n cd B : Nat) (e : Wr) (w' : World) : Prop :=
  w'.cell? ⟨p, 1, none⟩ = some (.slice (some ⟨gd, 0, none⟩) n cd) ∧ w'.cell? ⟨B, 0, none⟩ = some (.int .i64 e.1) ∧ w'.rangeAt B 1 (cb e.2) ∧ w'.there gd (e.1 * 64) 64
theorem Ready.mk {wr : World} {p gd n cd : Nat} {e : Wr} (h1 : wr.cell? ⟨p, 1, none⟩ = some (.slice (some ⟨gd, 0, none⟩) n cd)) (h2 : wr.there gd (e.1 * 64) 64) :
    Ready p gd n cd wr.heap.size e (wr.alloc (.cells (wrCells e).toArray 136)) := by
  have hb : Blk (wr.alloc (.cells (wrCells e).toArray 136)) wr.heap.size 136 (wrCells e) := Blk.new wr 136 _
  refine ⟨?_, hb.cell 0, fun j v hv => ?_, World.there_alloc h2 _⟩
  · rw [World.cell?_alloc_lt _ _ _ (World.block_lt_of_cell? wr _ h1)]; exact h1
  · rw [hb.cell, Nat.add_comm]
    simpa [wrCells] using hv
theorem Ready.stored {w' : World} {p gd n cd B : Nat} {e : Wr} (h : Ready p gd n cd B e w') (hp : gd ≠ p) (hB : gd ≠ B) (vs : List Value) : Ready p gd n cd B e (w'.setCells gd (e.1 * 64) vs) := by
  obtain ⟨h1, h2, h3, h4⟩ := h
  refine ⟨?_, ?_, ?_, World.there_setCells h4 _ _ _⟩
  · rw [World.cell?_setCells_out gd vs _ _ ⟨p, 1, none⟩ (fun e _ => absurd e (Ne.symm hp))]; exact h1
  · rw [World.cell?_setCells_out gd vs _ _ ⟨B, 0, none⟩ (fun e _ => absurd e (Ne.symm hB))]; exact h2
  · exact World.rangeAt_setCells_apart h3 _ _ _ (.inl (Ne.symm hB))

set_option maxRecDepth 100000 in
set_option maxHeartbeats 1600000 in
theorem Sync_c (w : World) (F : Nat → Prop) (hF : ∀ k, w.heap.size ≤ k → F k) (p : Nat) (d : Dsk) (h : Holds w F p d) (ho : d.ops < 4611686018427387904) (hr : d.row.length ≤ 4294967296) :
    Calls Tryz.prog 63 #[.pointer (some ⟨p, 0, none⟩)] w fun e w' => e = .returned (.int .i64 d.sync.2) ∧ Holds w' F p d.sync.1 ∧ Only F w w' := by
  have Hh := Lib.hid h
  obtain ⟨hw, Ad, As, Ar, cd, cs, cr, hd, hf⟩ := h
  have c7 : w.cell? ⟨p, 7, none⟩ = some (.bool d.down) := hd.blk.cell 7
  clear hd hf
  by_cases hdn : d.down = true
  · have E : Hid (d.sync = (d, 10)) := by show _ = _; simp [Dsk.sync, hdn]
    rw [hdn] at c7
    clear hdn hw
    go_enter Tryz.func63, Tryz.ntmps63
    go_wp2
    go_ret
    rw [E.out]
    exact ⟨rfl, Hh.out, Only.refl _ _⟩
  · have hdn' : d.down = false := by simpa using hdn
    rw [hdn'] at c7
    have c7' := c7
    clear hdn
    have Hop := Lib.hid (op_c w F p d Hh.out ho)
    by_cases hop : d.op.2 = 0
    · have E : Hid (d.sync = ({ d.op.1 with dur := d.see, row := [] }, 0)) := by show _ = _; simp [Dsk.sync, hdn', hop]
      have Hop2 : Hid (Calls Tryz.prog 80 #[.pointer (some ⟨p, 0, none⟩)] w fun e w' => e = .returned (.int .i64 0) ∧ Holds w' F p d.op.1 ∧ Only F w w') := by
        have := Hop.out; rw [hop] at this; exact this
      have Esee : Hid (d.op.1.see = d.see ∧ d.op.1.row = d.row ∧ d.op.1.n = d.n ∧ d.op.1.dur = d.dur) := by
        refine ⟨d.op_see, ?_, ?_, ?_⟩ <;> (unfold Dsk.op; split <;> (try split) <;> rfl)
      have hWF : d.op.1.WF := hw.op
      clear hdn' hop hw Hop
      generalize hD : d.op.1 = D at E Hop2 Esee hWF
      have HW := Lib.hid hWF
      have Hr : Hid (D.row.length ≤ 4294967296) := by show _ ≤ _; rw [Esee.out.2.1]; exact hr
      clear hD hWF c7 Hh
      have hc7 : w.cell? ⟨p, 7, none⟩ = some (.bool false) := c7'
      go_enter Tryz.func63, Tryz.ntmps63
      go_wp2_with (go_at_call 80; refine Hop2.out.mono ?_; rintro e w1 ⟨rfl, hh1, ho1⟩; have H1 := Lib.hid hh1; have O1 := Lib.hid ho1; clear hh1 ho1; obtain ⟨_, Ad, As, Ar, cd, cs, cr, hd, hf⟩ := H1.out; have k3 : w1.cell? ⟨p, 3, none⟩ = some (.slice Ar D.row.length cr) := hd.blk.cell 3; have HD := Lib.hid hd; have HFT := Lib.hid hf; clear hd hf)
      go_loopw [20] (fun i wr => ∃ k : Nat, k ≤ D.row.length ∧ i = .int .i64 k ∧ Run w1 wr F p D (look D.dur (D.row.take k)) D.see Ad As Ar cd cs cr) (fun i _ => D.row.length - (intOf i).toNat)
      case atStart => exact ⟨0, Nat.zero_le _, rfl, HD.out, Only.refl _ _⟩
      case round =>
        obtain ⟨k, hk, rfl, hrun⟩ := hrel
        have HR := Lib.hid hrun
        have hrb : (D.row.length : Int) ≤ 4294967296 := by have := Hr.out; omega
        clear hrun
        by_cases hlt : k < D.row.length
        · obtain ⟨e, he⟩ : ∃ e, e = D.row[k] := ⟨_, rfl⟩
          have hefit := HW.out.fits e (by rw [he]; exact List.getElem_mem hlt)
          obtain ⟨gr, rfl, hgr, hrange⟩ := row_at HR.out.disk HW.out.fits hlt
          rw [← he] at hrange
          have hXl : (look D.dur (D.row.take k)).length = D.n * 64 := look_length _ _ (HW.out.fits.take k) HW.out.len
          obtain ⟨gd, rfl, hgd, hgdp, hthere⟩ := dur_at (d := { D with dur := look D.dur (D.row.take k) }) HR.out.disk hXl hefit.1
          have HX := Lib.hid hXl
          have He := Lib.hid he
          have Hfit := Lib.hid hefit
          have Hrange := Lib.hid hrange
          have Hthere := Lib.hid hthere
          have Hgd := Lib.hid (And.intro hgd hgdp)
          have hk0 : (0 : Int) ≤ (k : Int) := Int.natCast_nonneg _
          have hk1 : (k : Int) < (D.row.length : Int) := by omega
          have ha0 : (0 : Int) ≤ (e.1 : Int) := Int.natCast_nonneg _
          have ha1 : (e.1 : Int) < (D.n : Int) := by omega
          have hsz : (Tryz.prog.info? 136).map (·.size) = some (wrCells e).length := by rw [size58, wrCells_length hefit.2]
          have Hsz := Lib.hid hsz
          clear hsz he hefit hrange hthere hXl hgd hgdp hgr
          have hz := zero58
          have Hsz' : Hid ((Tryz.prog.info? 136).map (·.size) = some (wrCells e).toArray.size ∧ Z58.size = (wrCells e).toArray.size ∧ (wrCells e).toArray.all (·.oneCell') = true) := by
            refine ⟨by rw [Hsz.out]; simp, by rw [Z58_size, List.size_toArray, wrCells_length Hfit.out.2], all_oneCell_toArray (wrCells_one e)⟩
          go_wp2_with (first | (refine wpList_load_mid rfl 136 (.tmp 22) rfl gr (k * 65) (by simp [Act.eval]) (wrCells e) _ Hrange.out Tryz.underlying136 rfl Hsz.out ?_) | (refine wpList_store_row rfl 136 (.tmp 5) (.tmp 23) rfl wr.heap.size (wrCells e).toArray (by simp [Act.eval]) (by simp [Act.eval]) 136 Z58 (heap_alloc_last wr _) Hsz'.out.1 Hsz'.out.2.1 Hsz'.out.2.2 ?_; rw [World.setRow_alloc_new]))
          go_simp
          have hu := Tryz.underlying78
          have hi : (Tryz.prog.info? 78).map (·.size) = some (cb e.2).length := by rw [size53, cb_length, Hfit.out.2]
          have hl64 : (cb e.2).length = 64 := by rw [cb_length, Hfit.out.2]
          have h1c := cb_one e.2
          have HY := Lib.hid (Ready.mk (e := e) (HR.out.disk.blk.cell 1) Hthere.out)
          have Hne : Hid (gd ≠ wr.heap.size) := by have := Hgd.out.1; exact (by omega : gd ≠ wr.heap.size)
          have HYd : Hid (Ready p gd D.n cd wr.heap.size e (wr.alloc (.cells (wrCells e).toArray 136)).drew) := HY.out
          have HYs : Hid (Ready p gd D.n cd wr.heap.size e ((wr.alloc (.cells (wrCells e).toArray 136)).drew.setCells gd (e.1 * 64) (cb e.2))) := Lib.hid (HYd.out.stored Hgd.out.2 Hne.out _)
          go_region_held3 (fun w' => w'.cell? ⟨p, 1, none⟩ = some (.slice (some ⟨gd, 0, none⟩) D.n cd) ∧ w'.cell? ⟨wr.heap.size, 0, none⟩ = some (.int .i64 e.1) ∧ w'.rangeAt wr.heap.size 1 (cb e.2) ∧ w'.there gd (e.1 * 64) 64) (first | exact HYd.out | exact HYs.out) (fail)
          have HN : Hid (Run w1 ((wr.alloc (.cells (wrCells e).toArray 136)).drew.setCells gd (e.1 * 64) (cb e.2)) F p D (look D.dur (D.row.take (k + 1))) D.see (some ⟨gd, 0, none⟩) As (some ⟨gr, 0, none⟩) cd cs cr) := by
            have hs := HR.out.step (fun k hk => hF k (Nat.le_trans O1.out.size hk)) HFT.out (.cells (wrCells e).toArray 136) HX.out Hfit.out.1 Hfit.out.2 rfl
            have e1 : look D.dur (D.row.take (k + 1)) = put (look D.dur (D.row.take k)) e := by
              rw [List.take_succ_eq_append_getElem hlt, look_append, He.out]
              rfl
            rw [e1]
            exact hs
          clear HY HYd HYs Hne hu hi hl64 h1c
          generalize (wr.alloc (.cells (wrCells e).toArray 136)).drew.setCells gd (e.1 * 64) (cb e.2) = wz at HN
          go_wp2
          go_roundw
          case rel => exact ⟨k + 1, by omega, by go_num, HN.out⟩
          case measure => simp [intOf]; omega
        · have hkm : ¬ (k : Int) < (D.row.length : Int) := by omega
          have q3 : wr.cell? ⟨p, 3, none⟩ = some (.slice Ar D.row.length cr) := HR.out.disk.blk.cell 3
          have qf : ∀ i, wr.frozen? ⟨p, i, none⟩ = false := HR.out.disk.blk.frozen
          go_wp2
          go_ret
          rw [E.out]
          have hwf := HW.out
          have hsee := Esee.out.1
          obtain rfl : k = D.row.length := by omega
          have hR := HR.out
          rw [List.take_length] at hR
          have hf := HFT.out
          refine ⟨rfl, ⟨⟨hwf.nl, hwf.lim, by show d.see.length = D.n * 64; rw [← hsee]; exact hwf.see, (fun e he => nomatch he), hwf.left⟩, Ad, As, none, cd, cs, 0, ⟨?_, ?_, ?_, World.ownsRow_nil _ _ _ _, hR.disk.apart⟩, ?_⟩, O1.out.trans (hR.only.setCell (p := ⟨p, 3, none⟩) (hf p (.inl rfl)) _)⟩
          · exact hR.disk.blk.set_ 3 (.slice none 0 0)
          · have := owns_far (w' := wr.setCell ⟨p, 3, none⟩ (.slice none 0 0)) hR.disk.dur fun a ha => Below.heap_setCell wr ⟨p, 3, none⟩ _ _ (hR.disk.ne_d a ha)
            rw [← hsee]
            exact this
          · have := owns_far (w' := wr.setCell ⟨p, 3, none⟩ (.slice none 0 0)) hR.disk.seen fun a ha => Below.heap_setCell wr ⟨p, 3, none⟩ _ _ (hR.disk.ne_s a ha)
            rw [hsee] at this
            exact this
          · rintro k (rfl | h | h | ⟨a, ha, _⟩)
            · exact hf _ (.inl rfl)
            · exact hf _ (.inr (.inl h))
            · exact hf _ (.inr (.inr (.inl h)))
            · cases ha
    · have E : Hid (d.sync = d.op) := by show _ = _; simp [Dsk.sync, hdn', hop]
      have hop' : (d.op.2 != 0) = true := by simpa using hop
      have hop10 : d.op.2 = 10 := by
        revert hop
        unfold Dsk.op
        split <;> (try split) <;> simp
      have Hop2 : Hid (Calls Tryz.prog 80 #[.pointer (some ⟨p, 0, none⟩)] w fun e w' => e = .returned (.int .i64 10) ∧ Holds w' F p d.op.1 ∧ Only F w w') := by
        have := Hop.out; rw [hop10] at this; exact this
      have E10 := Lib.hid hop10
      clear hdn' hop hop' hw Hop hop10
      go_enter Tryz.func63, Tryz.ntmps63
      go_wp2_with (go_at_call 80; refine Hop2.out.mono ?_; rintro e w1 ⟨rfl, hh1, ho1⟩; have H1 := Lib.hid hh1; have O1 := Lib.hid ho1; clear hh1 ho1)
      go_ret
      rw [E.out, E10.out]
      exact ⟨rfl, H1.out, O1.out⟩
end Go.Proofs.YtbpldkhgiddmlaaGreatDoor.Dk

/-
  Crash of a disk.
-/
set_option linter.unusedVariables false
namespace Go.Proofs.YtbpldkhgiddmlaaGreatDoor.Dk
open Go.RowKit

section
variable {w wk : World} {F : Nat → Prop} {p : Nat} {d : Dsk} {X Y : Bytes} {Ad As Ar : Option Addr} {cd cs cr : Nat}
theorem heap_setCells_far (g k : Nat) (hk : k ≠ g) : ∀ (vs : List Value) (o : Nat) (W : World), (W.setCells g o vs).heap[k]? = W.heap[k]?
  | [], _, _ => rfl
  | v :: r, o, W => by rw [World.setCells, heap_setCells_far g k hk r]; exact Below.heap_setCell W ⟨g, o, none⟩ v k hk
theorem Run.alloc (h : Run w wk F p d X Y Ad As Ar cd cs cr) (hF : ∀ k, w.heap.size ≤ k → F k) (o : Obj) : Run w (wk.alloc o) F p d X Y Ad As Ar cd cs cr :=
  ⟨h.disk.alloc o, h.only.alloc hF o⟩
theorem seen_at (hd : DiskIn wk p d Y Ad As Ar cd cs cr) {a : Nat} (hl : Y.length = d.n * 64) (he : a < d.n) :
    ∃ g, As = some ⟨g, 0, none⟩ ∧ g < wk.heap.size ∧ g ≠ p ∧ wk.there g (a * 64) 64 := by
  obtain ⟨g, hg⟩ := owns_pos hd.seen (by omega)
  obtain ⟨g', cur, hgg, hb, hbl, hnc, _⟩ := owns_form hd.seen hg
  cases hgg
  exact ⟨g, hg, hb.lt, hd.ne_s _ hg, hb.there _ _ (by rw [List.length_append, cb_length, hl]; omega)⟩
end

/-- What the region that lays a sector anew reads, and where it stores. -/
def Ready2 (p gd gs n cd cs B : Nat) (a : Nat) (x : Bytes) (w' : World) : Prop :=
  w'.cell? ⟨p, 1, none⟩ = some (.slice (some ⟨gd, 0, none⟩) n cd) ∧ w'.cell? ⟨p, 2, none⟩ = some (.slice (some ⟨gs, 0, none⟩) n cs) ∧ w'.cell? ⟨B, 0, none⟩ = some (.int .i64 a) ∧ w'.rangeAt gd (a * 64) (cb x) ∧ w'.there gs (a * 64) 64
theorem Ready2.mk {wr : World} {p gd gs n cd cs : Nat} {e : Wr} {x : Bytes} (h1 : wr.cell? ⟨p, 1, none⟩ = some (.slice (some ⟨gd, 0, none⟩) n cd)) (h2 : wr.cell? ⟨p, 2, none⟩ = some (.slice (some ⟨gs, 0, none⟩) n cs))
    (h3 : wr.rangeAt gd (e.1 * 64) (cb x)) (h4 : wr.there gs (e.1 * 64) 64) :
    Ready2 p gd gs n cd cs wr.heap.size e.1 x (wr.alloc (.cells (wrCells e).toArray 136)) := by
  have hb : Blk (wr.alloc (.cells (wrCells e).toArray 136)) wr.heap.size 136 (wrCells e) := Blk.new wr 136 _
  refine ⟨?_, ?_, hb.cell 0, World.rangeAt_alloc h3 _, World.there_alloc h4 _⟩
  · rw [World.cell?_alloc_lt _ _ _ (World.block_lt_of_cell? wr _ h1)]; exact h1
  · rw [World.cell?_alloc_lt _ _ _ (World.block_lt_of_cell? wr _ h2)]; exact h2
theorem Ready2.stored {w' : World} {p gd gs n cd cs B a : Nat} {x : Bytes} (h : Ready2 p gd gs n cd cs B a x w') (hp : gs ≠ p) (hB : gs ≠ B) (hd : gd ≠ gs) (vs : List Value) : Ready2 p gd gs n cd cs B a x (w'.setCells gs (a * 64) vs) := by
  obtain ⟨h1, h2, h3, h4, h5⟩ := h
  refine ⟨?_, ?_, ?_, World.rangeAt_setCells_apart h4 _ _ _ (.inl hd), World.there_setCells h5 _ _ _⟩
  · rw [World.cell?_setCells_out gs vs _ _ ⟨p, 1, none⟩ (fun e _ => absurd e (Ne.symm hp))]; exact h1
  · rw [World.cell?_setCells_out gs vs _ _ ⟨p, 2, none⟩ (fun e _ => absurd e (Ne.symm hp))]; exact h2
  · rw [World.cell?_setCells_out gs vs _ _ ⟨B, 0, none⟩ (fun e _ => absurd e (Ne.symm hB))]; exact h3
end Go.Proofs.YtbpldkhgiddmlaaGreatDoor.Dk

/-
  What Write lays: an element of the row; the disk behind each of the two statements of its loop.
-/
set_option linter.unusedVariables false
namespace Go.Proofs.YtbpldkhgiddmlaaGreatDoor.Dk
open Go.RowKit

theorem foldl_over (off : Nat) : ∀ (l : List Value) (s : Nat) (cs : List Value), off + s + l.length ≤ cs.length →
    ((l.zipIdx s).foldl (fun (cs : Array Value) (x : Value × Nat) => cs.setIfInBounds (off + x.2) x.1) cs.toArray) = (over cs (off + s) l).toArray
  | [], s, cs, _ => by simp [over_nil]
  | v :: r, s, cs, h => by
    simp only [List.length_cons] at h
    rw [List.zipIdx_cons, List.foldl_cons]
    have e : cs.toArray.setIfInBounds (off + s) v = (cs.set (off + s) v).toArray := by simp
    show List.foldl _ (cs.toArray.setIfInBounds (off + s) v) _ = _
    rw [e, foldl_over off r (s + 1) _ (by simp; omega), show off + (s + 1) = off + s + 1 by omega, over_cons _ _ _ _ (by omega)]

theorem fill_one (place : Nat → Option (Nat × Nat)) (cs : List Value) (i off size : Nat) (v : Value) (rest : List (Nat × Value)) (hp : place i = some (off, size)) (hv : v.cells.size = size) (hl : off + size ≤ cs.length) :
    Instr.fill place cs.toArray ((i, v) :: rest) = Instr.fill place (over cs off v.cells.toList).toArray rest := by
  have h := foldl_over off v.cells.toList 0 cs (by simp; omega)
  simp only [Nat.add_zero] at h
  rw [Instr.fill, hp]
  simp only
  rw [if_neg (by simp [hv]; omega)]
  congr 1
  rw [← h, ← Array.foldl_toList, Array.toList_zipIdx]

theorem places58 : ∃ fs : Array Field, Tryz.prog.underlying 136 = some (.struct fs) ∧ fs.toList.mapM (fun f => (Tryz.prog.info? f.type).map fun i => (f.offset, i.size)) = some [(0, 1), (1, 64)] :=
  ⟨_, Tryz.underlying136, by kernel_rfl⟩

theorem build58 (a : Int) (n : Nat) (s : Bytes) (hs : s.length = 64) (ha : a = (n : Int)) (W : World) :
    (Instr.build 136 #[(0, .int .i64 a), (1, .agg (cb s).toArray)]).run Tryz.prog W = .ok (.agg (wrCells (n, s)).toArray) W := by
  subst ha
  refine run_build W 136 _ _ ?_
  obtain ⟨fs, hu, hp⟩ := places58
  obtain ⟨i0, hi0, hz0, hz1, hz2⟩ := info_parts info58
  unfold Program.built
  rw [hi0, hu]
  simp only [hz0, hp]
  have e0 : (Value.agg ((#[.int .i64 0] : Array Value) ++ Array.replicate 64 z8)).cells = (Value.int .i64 0 :: List.replicate 64 z8).toArray := by
    simp [Value.cells]
  rw [e0, fill_one _ _ 0 0 1 _ _ (by rfl) (by rfl) (by simp)]
  rw [show over (Value.int .i64 0 :: List.replicate 64 z8) 0 (Value.int .i64 (n : Int)).cells.toList = Value.int .i64 (n : Int) :: List.replicate 64 z8 by simp [over, Value.cells]]
  rw [fill_one _ _ 1 1 64 _ _ (by rfl) (by simp [Value.cells, cb_length, hs]) (by simp)]
  have hcl : (cb s).length = 64 := by rw [cb_length, hs]
  have e1 : over (Value.int .i64 (n : Int) :: List.replicate 64 z8) 1 (Value.agg (cb s).toArray).cells.toList = wrCells (n, s) := by
    simp only [over, Value.cells, List.take_succ_cons, List.take_zero, hcl, wrCells]
    simp
  rw [e1]
  rfl

theorem buildSlice54 (e : Wr) (he : e.2.length = 64) (W : World) :
    (Instr.buildSlice 79 1 #[(0, .agg (wrCells e).toArray)]).run Tryz.prog W = .ok (.slice (some ⟨W.heap.size, 0, none⟩) 1 1) (W.alloc (.cells (wrCells e).toArray 136)) := by
  obtain ⟨i0, hi0, hz0, hz1, hz2⟩ := info_parts info58
  refine run_buildSlice W 79 136 1 _ _ i0 _ Tryz.underlying79 hi0 hz0 (by rw [hz1]; decide) (by rw [hz1]; decide) ?_
  have hl := wrCells_length he
  have hmap : ∀ f : Nat → Value, ∃ cs : List Value, cs.length = 65 ∧ (Array.range (1 * i0.size)).map f = cs.toArray := fun f => ⟨((Array.range (1 * i0.size)).map f).toList, by simp [hz1], (Array.toArray_toList).symm⟩
  obtain ⟨cs, hcs⟩ := hmap ((Value.agg ((#[.int .i64 0] : Array Value) ++ Array.replicate 64 z8)).cells[· % (Value.agg ((#[.int .i64 0] : Array Value) ++ Array.replicate 64 z8)).cells.size]!)
  rw [hcs.2, hz1]
  rw [fill_one _ cs 0 0 65 _ _ (by rfl) (by simp [Value.cells, hl]) (by omega)]
  have e1 : over cs 0 (Value.agg (wrCells e).toArray).cells.toList = wrCells e := by
    simp only [over, Value.cells, List.take_zero, List.nil_append, Nat.zero_add, hl]
    rw [List.drop_of_length_le (by omega)]
    simp
  rw [e1]
  rfl

section
variable {w wk w3 : World} {F : Nat → Prop} {p : Nat} {d : Dsk} {Y : Bytes} {Ad As Ar : Option Addr} {cd cs cr : Nat}
/-- Bytes of a sector laid over what is seen. -/
theorem DiskIn.putSeen (h : DiskIn wk p d Y Ad As Ar cd cs cr) {a : Nat} {x : Bytes} (hl : Y.length = d.n * 64) (he : a < d.n) (he2 : x.length = 64) {g : Nat} (hg : As = some ⟨g, 0, none⟩) :
    DiskIn (wk.setCells g (a * 64) (cb x)) p d (over Y (a * 64) x) Ad As Ar cd cs cr := by
  obtain ⟨g', cur, hgg, hb, hbl, hnc, hcm⟩ := owns_form h.seen hg
  cases hgg
  have hfar : ∀ k, k ≠ g → (wk.setCells g (a * 64) (cb x)).heap[k]? = wk.heap[k]? := fun k hk => heap_setCells_far g k hk _ _ _
  have hcl : (cb x).length = 64 := by rw [cb_length, he2]
  have hYl : (cb Y).length = d.n * 64 := by rw [cb_length, hl]
  have hb2 : Blk (wk.setCells g (a * 64) (cb x)) g 78 (cb (over Y (a * 64) x) ++ cur) := by
    have := hb.setN (cb x) (a * 64) (by rw [List.length_append, hYl, hcl]; omega)
    rw [over_append _ _ _ _ (by rw [hYl, hcl]; omega), ← cb_over] at this
    exact this
  have hpl : (over Y (a * 64) x).length = d.n * 64 := (over_length _ _ _ (by omega)).trans hl
  refine ⟨(hfar p (by have := h.ne_s _ hg; exact this.symm)).trans h.blk, ?_, ?_, ?_, h.apart⟩
  · exact owns_far h.dur fun b hb => hfar _ (fun e => h.apart b _ hb hg e)
  · rw [hg]
    exact owns_mk hb2 (by rw [cb_length, hpl]) (by rw [List.length_append, cb_length, hpl, ← hbl, List.length_append, hYl]) hnc hcm
  · exact owns_far h.row fun b hb => hfar _ (fun e => h.ne_rs b _ hb hg e)

/-- A write more in the row: behind the append, and the store of the field. -/
theorem DiskIn.addRow (h : DiskIn wk p d Y Ad As Ar cd cs cr) {e : Wr} {g cap : Nat} (hlt : wk.heap.size ≤ w.heap.size) (hk : ∀ k, k < wk.heap.size → w.heap[k]? = wk.heap[k]?)
    (ho : w3.ownsRow 0 136 65 (.slice (some ⟨g, 0, none⟩) (d.row.length + 1) cap) (d.row.length + 1) (rowCells d.row ++ wrCells e)) (hg : w.grownBy w3 (Value.ownBlock (.slice Ar d.row.length cr))) (hat : Value.ownBlock (.slice Ar d.row.length cr) = some g ∨ g = w.heap.size) :
    DiskIn (w3.setCell ⟨p, 3, none⟩ (.slice (some ⟨g, 0, none⟩) (d.row.length + 1) cap)) p { d with row := d.row ++ [e] } Y Ad As (some ⟨g, 0, none⟩) cd cs cap ∧
      (∀ k, Foot p Ad As (some ⟨g, 0, none⟩) k → Foot p Ad As Ar k ∨ w.heap.size ≤ k) ∧ w3.cell? ⟨p, 3, none⟩ = some (.slice Ar d.row.length cr) ∧ w3.frozen? ⟨p, 3, none⟩ = false ∧ p < w3.heap.size := by
  have ob : ∀ k, Value.ownBlock (.slice Ar d.row.length cr) = some k → ∃ a, Ar = some a ∧ a.block = k := by
    intro k hk
    cases Ar with
    | none => simp [Value.ownBlock] at hk
    | some a => exact ⟨a, rfl, by simpa [Value.ownBlock] using hk⟩
  have u : ∀ k, k < wk.heap.size → (∀ a, Ar = some a → a.block ≠ k) → w3.heap[k]? = wk.heap[k]? := fun k hlk hne =>
    (hg.block k (by omega) (fun e => by obtain ⟨a, ha, hb⟩ := ob k e.symm; exact hne a ha hb)).trans (hk k hlk)
  have hplt := h.blk.lt
  have hp3 : w3.heap[p]? = wk.heap[p]? := u p hplt fun a ha => h.ne_r a ha
  have b3 : Blk w3 p 81 _ := hp3.trans h.blk
  have hgp : g ≠ p := by
    rcases hat with h1 | h1
    · obtain ⟨a, ha, hb⟩ := ob g h1
      rw [← hb]; exact h.ne_r a ha
    · omega
  have us : ∀ k, k ≠ p → (w3.setCell ⟨p, 3, none⟩ (.slice (some ⟨g, 0, none⟩) (d.row.length + 1) cap)).heap[k]? = w3.heap[k]? := fun k hk => Below.heap_setCell w3 ⟨p, 3, none⟩ _ k hk
  refine ⟨⟨?_, ?_, ?_, ?_, h.apart⟩, ?_, b3.cell 3, b3.frozen 3, b3.lt⟩
  · have := b3.set_ 3 (.slice (some ⟨g, 0, none⟩) (d.row.length + 1) cap)
    unfold fieldsOf at this ⊢
    simpa using this
  · exact owns_far h.dur fun a ha => (us _ (h.ne_d a ha)).trans (u _ (h.lt _ (.inr (.inl ⟨a, ha, rfl⟩))) (fun b hb => h.ne_rd b a hb ha))
  · exact owns_far h.seen fun a ha => (us _ (h.ne_s a ha)).trans (u _ (h.lt _ (.inr (.inr (.inl ⟨a, ha, rfl⟩)))) (fun b hb => h.ne_rs b a hb ha))
  · have := owns_far (w' := w3.setCell ⟨p, 3, none⟩ (.slice (some ⟨g, 0, none⟩) (d.row.length + 1) cap)) ho fun a ha => by cases ha; exact us g hgp
    rw [rowCells_append, rowCells_one]
    simpa using this
  · rintro k (rfl | h1 | h1 | ⟨a, ha, rfl⟩)
    · exact .inl (.inl rfl)
    · exact .inl (.inr (.inl h1))
    · exact .inl (.inr (.inr (.inl h1)))
    · cases ha
      rcases hat with h2 | h2
      · exact .inl (.inr (.inr (.inr (ob g h2))))
      · exact .inr (by show w.heap.size ≤ g; omega)
end
end Go.Proofs.YtbpldkhgiddmlaaGreatDoor.Dk

/-
  Write of a disk.
-/
set_option linter.unusedVariables false
namespace Go.Proofs.YtbpldkhgiddmlaaGreatDoor.Dk
open Go.RowKit

/-- The 64 cells behind a pointer. -/
def secV (w : World) : Value → List Value
  | .pointer (some a) => (List.range 64).map fun j => (w.cell? ⟨a.block, a.off + j, none⟩).getD undef
  | _ => []
def FullV (w : World) (v : Value) : Prop := ∃ b o cs, v = .pointer (some ⟨b, o, none⟩) ∧ cs.length = 64 ∧ w.rangeAt b o cs
theorem secV_eq {w : World} {b o : Nat} {cs : List Value} (hl : cs.length = 64) (hr : w.rangeAt b o cs) : secV w (.pointer (some ⟨b, o, none⟩)) = cs := by
  apply List.ext_getElem?
  intro i
  simp only [secV, List.getElem?_map]
  by_cases h : i < 64
  · rw [List.getElem?_range h, List.getElem?_eq_getElem (by omega)]
    have := hr i _ (List.getElem?_eq_getElem (by omega))
    simp [this]
  · rw [List.getElem?_eq_none (by simp; omega), List.getElem?_eq_none (by omega)]
    rfl
/-- A sector's load, as one step: no cell of it is looked at. -/
theorem wp_load53 {d : Option Tmp} {x : Operand} {ty : TypeId} {ps : String} {af : Array Edge} {g : Option (Nat × Bool)} {a : Act} {w : World} {K : Act → World → Prop} {Q : Exit → Act → World → Prop} (h : FullV w (a.eval x)) :
    Oper.wp Tryz.prog { dst := d, op := .load 78 x, type := ty, pos := ps, after := af, guard := g } a w K Q = K (a.put d (.agg (secV w (a.eval x)).toArray)) w := by
  obtain ⟨b, o, cs, hv, hl, hr⟩ := h
  unfold Oper.wp execOp
  simp only [hv, Instr.loadAt, Instr.sureAddr, Sem.run_bind, Sem.run_pure, Result.andThen_ok, run_loadVar_mid w b o 78 cs _ hr Tryz.underlying78 rfl (by rw [size53, hl]), secV_eq hl hr, Oper.upon]
/-- A write built out of its place and its sector, as one step. -/
def bldV (v y : Value) : List Value := v :: y.cells.toList
def OkB (v y : Value) : Prop := ∃ (n : Nat) (s : Bytes), v = .int .i64 n ∧ y = .agg (cb s).toArray ∧ s.length = 64
theorem wp_build58 {d : Option Tmp} {x y : Operand} {ty : TypeId} {ps : String} {af : Array Edge} {g : Option (Nat × Bool)} {a : Act} {w : World} {K : Act → World → Prop} {Q : Exit → Act → World → Prop} (h : OkB (a.eval x) (a.eval y)) :
    Oper.wp Tryz.prog { dst := d, op := .build 136 #[(0, x), (1, y)], type := ty, pos := ps, after := af, guard := g } a w K Q = K (a.put d (.agg (bldV (a.eval x) (a.eval y)).toArray)) w := by
  obtain ⟨n, s, hx, hy, hs⟩ := h
  have hb := build58 (n : Int) n s hs rfl w
  unfold Oper.wp execOp
  simp only [List.map_toArray, List.map_cons, List.map_nil, hx, hy, Sem.run_bind, hb, Sem.run_pure, Result.andThen_ok, Oper.upon]
  simp only [bldV, Value.cells, wrCells]
/-- A slice of that one write, as one step. -/
def celV (v : Value) : Array Value := v.cells
def OkS (v : Value) : Prop := ∃ e : Wr, e.2.length = 64 ∧ v = .agg (wrCells e).toArray
theorem wp_bs54 {d : Option Tmp} {x : Operand} {ty : TypeId} {ps : String} {af : Array Edge} {g : Option (Nat × Bool)} {a : Act} {w : World} {K : Act → World → Prop} {Q : Exit → Act → World → Prop} (h : OkS (a.eval x)) :
    Oper.wp Tryz.prog { dst := d, op := .buildSlice 79 1 #[(0, x)], type := ty, pos := ps, after := af, guard := g } a w K Q = K (a.put d (.slice (some ⟨w.heap.size, 0, none⟩) 1 1)) (w.alloc (.cells (celV (a.eval x)) 136)) := by
  obtain ⟨e, he, hx⟩ := h
  have hb := buildSlice54 e he w
  unfold Oper.wp execOp
  simp only [List.map_toArray, List.map_cons, List.map_nil, hx, Sem.run_bind, hb, Sem.run_pure, Result.andThen_ok, Oper.upon]
  simp only [celV, Value.cells]
attribute [local go_sem ↓] Go.wp_at_zero Go.wp_at_succ wp_load53 wp_build58 wp_bs54

theorem zero53 : ∀ w : World, (zeroValue 78).run Tryz.prog w = .ok (.agg (List.replicate 64 z8).toArray) w := (zero_of_info (n := 64) (by kernel_rfl)).1

/-- Behind k rounds of Write's loop. -/
def WRun (w1 wr : World) (F : Nat → Prop) (p : Nat) (d : Dsk) (a : Nat) (xs : Bytes) (k : Nat) (Ad As : Option Addr) (cd cs : Nat) : Prop :=
  ∃ Ar cr, DiskIn wr p { d with row := d.row ++ chunks a xs k } (look d.dur (d.row ++ chunks a xs k)) Ad As Ar cd cs cr ∧ (∀ k, Foot p Ad As Ar k → F k) ∧ Only F w1 wr

set_option maxRecDepth 100000 in
set_option maxHeartbeats 3200000 in
theorem Write_c (w : World) (F : Nat → Prop) (hF : ∀ k, w.heap.size ≤ k → F k) (p : Nat) (d : Dsk) (h : Holds w F p d) (ho : d.ops < 4611686018427387904) (at_ : Int) (ha : -9223372036854775808 ≤ at_) (ha' : at_ ≤ 9223372036854775807)
    (A : Option Addr) (n c : Nat) (xs : Bytes) (hs : Src w F A n (cb xs)) (hc : n ≤ c) (hm : c ≤ maxLen) (hr : d.row.length ≤ 4294967296) :
    Calls Tryz.prog 62 #[.pointer (some ⟨p, 0, none⟩), .int .i64 at_, .slice A n c] w fun e w' => e = .returned (.int .i64 (d.write at_ xs).2) ∧ Holds w' F p (d.write at_ xs).1 ∧ Only F w w' := by
  have hxl : xs.length = n := by have := hs.1; rwa [cb_length] at this
  have hn : (d.n : Int) ≤ 65536 := by have := h.1.nl; have := h.1.lim; omega
  have Hh := Lib.hid h
  obtain ⟨hw, Ad, As, Ar, cd, cs, cr, hd, hf⟩ := h
  have c7 : w.cell? ⟨p, 7, none⟩ = some (.bool d.down) := hd.blk.cell 7
  have hm2 : (n : Int) ≤ 9223372036854775807 := by simp only [maxLen] at hm; omega
  by_cases hdn : d.down = true
  · have E : Hid (d.write at_ xs = (d, 10)) := by show _ = _; simp [Dsk.write, hdn]
    rw [hdn] at c7
    clear hdn hw hd hf hs hm
    go_enter Tryz.func62, Tryz.ntmps62
    go_wp2
    go_ret
    rw [E.out]
    exact ⟨rfl, Hh.out, Only.refl _ _⟩
  · have hdn' : d.down = false := by simpa using hdn
    rw [hdn'] at c7
    clear hdn
    by_cases hb : n = 0 ∨ n % 64 ≠ 0
    · have E : Hid (d.write at_ xs = (d, 1)) := by
        show _ = _
        rw [Dsk.write, if_neg (by rw [hdn']; decide), hxl, if_pos hb]
      clear hdn' hw hd hf hs hm hxl
      rcases Nat.eq_zero_or_pos n with h0 | h0
      · subst h0
        clear hb
        go_enter Tryz.func62, Tryz.ntmps62
        go_wp2
        go_ret
        rw [E.out]
        exact ⟨rfl, Hh.out, Only.refl _ _⟩
      · have hb' : n % 64 ≠ 0 := by omega
        have t1 : ((n : Int) == 0) = false := by rw [beq_eq_false_iff_ne]; omega
        have t2 : ((n : Int) % 64 != 0) = true := by rw [bne_iff_ne]; omega
        clear hb hb'
        go_enter Tryz.func62, Tryz.ntmps62
        go_wp2
        go_ret
        rw [E.out]
        exact ⟨rfl, Hh.out, Only.refl _ _⟩
    · have h0 : 0 < n := by omega
      have hmod : n % 64 = 0 := by omega
      have t1 : ((n : Int) == 0) = false := by rw [beq_eq_false_iff_ne]; omega
      have t2 : ((n : Int) % 64 != 0) = false := by rw [bne_eq_false_iff_eq]; omega
      have hhc := has_c w F p d Hh.out at_ ((n : Int) / 64) ha ha'
      by_cases hh : d.has at_ ((n : Int) / 64) = false
      · have E : Hid (d.write at_ xs = (d, 11)) := by
          show _ = _
          rw [Dsk.write, if_neg (by rw [hdn']; decide), hxl, if_neg hb, if_pos (by rw [show ((n / 64 : Nat) : Int) = (n : Int) / 64 by omega]; exact hh)]
        rw [hh] at hhc
        have Hc := Lib.hid hhc
        clear hdn' hw hd hf hs hm hxl hb hmod hh hhc
        go_enter Tryz.func62, Tryz.ntmps62
        go_wp2_with (go_at_call 75; refine Hc.out.mono ?_; rintro e w' ⟨rfl, rfl⟩)
        go_ret
        rw [E.out]
        exact ⟨rfl, Hh.out, Only.refl _ _⟩
      · have hh' : d.has at_ ((n : Int) / 64) = true := by simpa using hh
        rw [hh'] at hhc
        have Hc := Lib.hid hhc
        have hat : 0 ≤ at_ ∧ (n : Int) / 64 ≤ d.n - at_ := by
          unfold Dsk.has at hh'
          simp at hh'
          omega
        obtain ⟨a, rfl⟩ : ∃ a : Nat, at_ = (a : Int) := ⟨at_.toNat, by omega⟩
        obtain ⟨M, hM⟩ : ∃ M, M = n / 64 := ⟨_, rfl⟩
        have hMn : n = M * 64 := by omega
        have haM : a + M ≤ d.n := by omega
        have E : Hid (d.write (a : Int) xs = Dsk.op { d with row := d.row ++ chunks a xs M }) := by
          show _ = _
          rw [Dsk.write, if_neg (by rw [hdn']; decide), hxl, if_neg hb, if_neg (by rw [show ((n / 64 : Nat) : Int) = (n : Int) / 64 by omega, hh']; decide), hM]
          rfl
        have Hs : Hid (Src w (w.heap.size ≤ ·) A n (cb xs)) := by
          refine ⟨hs.1, fun h0 => ?_⟩
          obtain ⟨ad, h1, h2, h3⟩ := hs.2 h0
          exact ⟨ad, h1, fun hge => h2 (hF _ hge), h3⟩
        have Hm := Lib.hid (And.intro hm (And.intro hM (And.intro hMn haM)))
        have Hx := Lib.hid hxl
        have HD := Lib.hid hd
        have HFT := Lib.hid hf
        have HW := Lib.hid hw
        have HF := Lib.hid hF
        have hnb : n ≤ 4294967296 := by omega
        clear hdn' hw hd hf hs hm hxl hb hmod hh hhc hh' hM hMn hat
        go_enter Tryz.func62, Tryz.ntmps62
        go_wp2_with (first | (go_at_call 75; refine Hc.out.mono ?_; rintro e w' ⟨rfl, rfl⟩) | (go_at_call 35; refine (sectorsOf_x _ A n c xs Hs.out hc hnb Hm.out.1).mono ?_; rintro e w1 ⟨M', X, rfl, H1⟩))
        have HJ : Hid (M' = M ∧ Blk w1 w.heap.size 78 (cb xs) ∧ Only (w.heap.size ≤ ·) w w1) := by
          obtain ⟨e1, e2, e3, e4⟩ := H1.out
          have hxl := Hx.out
          have hMn := Hm.out.2.2.1
          refine ⟨by omega, ?_, e4⟩
          have : X = xs := by rw [e1, pad, show (xs.length + 63) / 64 * 64 - xs.length = 0 by omega]; simp
          rw [this] at e3
          exact e3
        obtain rfl : M' = M := HJ.out.1
        clear H1
        have HO1 := Lib.hid HJ.out.2.2
        have HB1 := Lib.hid HJ.out.2.1
        have hs1 : w.heap.size < w1.heap.size := HB1.out.lt
        have HG : Hid (∀ k, w1.heap.size ≤ k → F k ∧ k ≠ w.heap.size) := fun k hk => ⟨HF.out k (by omega), by omega⟩
        clear HJ
        go_loopw [32] (fun i wr => ∃ k : Nat, k ≤ M' ∧ i = .int .i64 k ∧ WRun w1 wr (fun k => F k ∧ k ≠ w.heap.size) p d a xs k Ad As cd cs) (fun i _ => M' - (intOf i).toNat)
        case atStart =>
          refine ⟨0, Nat.zero_le _, rfl, Ar, cr, ?_, fun k hk => ⟨HFT.out k hk, ?_⟩, Only.refl _ _⟩
          · have := HD.out.only HO1.out (fun k hk => by have := HD.out.lt k hk; show ¬ w.heap.size ≤ k; omega)
            simpa [chunks, Dsk.see] using this
          · have := HD.out.lt k hk; omega
        case round =>
          obtain ⟨k, hk, rfl, Ar', cr', hd1, hf1, ho1⟩ := hrel
          have HD1 := Lib.hid hd1
          have HF1 := Lib.hid hf1
          have HO := Lib.hid ho1
          have hMb : (M' : Int) ≤ 65536 := by have := Hm.out.2.2.2; omega
          clear hd1 hf1 ho1
          by_cases hlt : k < M'
          · obtain ⟨s, hs⟩ : ∃ s, s = (xs.drop (k * 64)).take 64 := ⟨_, rfl⟩
            have hsl : s.length = 64 := by
              have := Hm.out.2.2.1
              have := Hx.out
              rw [hs]; simp; omega
            have hB : Blk wr w.heap.size 78 (cb xs) := HB1.out.only HO.out (by simp)
            have hrange : wr.rangeAt w.heap.size (k * 64) (cb s) := by
              have := hB.range (k * 64) 64
              rw [← cb_drop, ← cb_take, ← hs] at this
              exact this
            have hYl : (look d.dur (d.row ++ chunks a xs k)).length = d.n * 64 := by
              have := Hm.out.2.2
              have := Hx.out
              exact look_length _ _ (HW.out.fits.append (chunks_fits (by omega) (by omega))) HW.out.len
            obtain ⟨gs, rfl, hgs, hgsp, hthere⟩ := seen_at (d := { d with row := d.row ++ chunks a xs k }) (a := a + k) HD1.out hYl (by have := Hm.out.2.2.2; show a + k < d.n; omega)
            have HY0 := Lib.hid hYl
            have Hgs := Lib.hid (And.intro hgs (And.intro hgsp hthere))
            have Hrange := Lib.hid hrange
            have Hs := Lib.hid hs
            have Hsl := Lib.hid hsl
            have hk0 : (0 : Int) ≤ (k : Int) := Int.natCast_nonneg _
            have hk1 : (k : Int) < (M' : Int) := by omega
            have ha0 : (0 : Int) ≤ (a : Int) := Int.natCast_nonneg _
            have hak : (a : Int) + (k : Int) < (d.n : Int) := by have := Hm.out.2.2.2; omega
            have hz := zero53
            have Hsz : Hid ((Tryz.prog.info? 78).map (·.size) = some (cb s).length ∧ (Tryz.prog.info? 78).map (·.size) = some (cb s).toArray.size ∧ (List.replicate 64 z8).toArray.size = (cb s).toArray.size ∧ (cb s).toArray.all (·.oneCell') = true) := by
              refine ⟨by rw [size53, cb_length, hsl], by rw [size53, List.size_toArray, cb_length, hsl], by rw [List.size_toArray, List.size_toArray, cb_length, hsl]; simp, all_oneCell_toArray (cb_one s)⟩
            clear hs hsl hrange hB hYl hgs hgsp hthere
            go_wp2_with (first | (refine wpList_load_mid rfl 78 (.tmp 35) rfl w.heap.size (k * 64) (by simp [Act.eval]) (cb s) _ Hrange.out Tryz.underlying78 rfl Hsz.out.1 ?_) | (refine wpList_store_row rfl 78 (.tmp 8) (.tmp 36) rfl wr.heap.size (cb s).toArray (by simp [Act.eval]) (by simp [Act.eval]) 78 (List.replicate 64 z8).toArray (heap_alloc_last wr _) Hsz.out.2.1 Hsz.out.2.2.1 Hsz.out.2.2.2 ?_; rw [World.setRow_alloc_new]))
            go_simp
            obtain ⟨D1, hD1⟩ : ∃ D1 : Dsk, D1 = { d with row := d.row ++ chunks a xs k } := ⟨_, rfl⟩
            have HD1' : Hid (DiskIn wr p D1 (look d.dur (d.row ++ chunks a xs k)) Ad (some ⟨gs, 0, none⟩) Ar' cd cs cr') := by rw [hD1]; exact HD1
            have c3 : wr.cell? ⟨p, 3, none⟩ = some (.slice Ar' D1.row.length cr') := HD1'.out.blk.cell 3
            have hplt : p < wr.heap.size := HD1'.out.blk.lt
            have HDD := Lib.hid hD1
            have Hrl : Hid (D1.row.length + 1 ≤ maxLen ∧ (D1.row.length + 1) * 72 ≤ 140737488355328) := by
              have e : D1.row.length = d.row.length + k := by rw [hD1]; simp [chunks_length]
              have := Hm.out.2.2.2
              have h3 : M' ≤ 65536 := by omega
              exact ⟨by simp only [maxLen]; omega, by omega⟩
            clear hD1 HD1
            obtain ⟨i0, hi0, hz0, hz1, hz2⟩ := info_parts info58
            have Hi := Lib.hid (And.intro hi0 (And.intro hz0 (And.intro hz1 hz2)))
            clear hi0 hz0 hz1 hz2
            have f3 : OkB (.int .i64 ((a : Int) + (k : Int))) (.agg (cb s).toArray) := ⟨a + k, s, by rw [Int.natCast_add], rfl, Hsl.out⟩
            have f4 : bldV (.int .i64 ((a : Int) + (k : Int))) (.agg (cb s).toArray) = wrCells (a + k, s) := by simp [bldV, Value.cells, wrCells]
            have f5 : OkS (.agg (wrCells (a + k, s)).toArray) := ⟨(a + k, s), Hsl.out, rfl⟩
            have f6 : celV (.agg (wrCells (a + k, s)).toArray) = (wrCells (a + k, s)).toArray := rfl
            have hB0 : Blk (wr.alloc (.cells (cb s).toArray 78)) wr.heap.size 78 (cb s) := Blk.new wr 78 _
            have hra : ∀ W, Blk W wr.heap.size 78 (cb s) → W.rangeAt wr.heap.size 0 (cb s) := fun W hb j v hv => by rw [hb.cell, Nat.zero_add]; exact hv
            have hcl : (cb s).length = 64 := by rw [cb_length, Hsl.out]
            have hwak : IntKind.i64.wrap ((a : Int) + (k : Int)) = (a : Int) + (k : Int) := IntWalk.i64_in _ (by omega)
            have f1 : FullV (wr.alloc (.cells (cb s).toArray 78)).drew (.pointer (some ⟨wr.heap.size, 0, none⟩)) := ⟨_, _, _, rfl, hcl, hra _ hB0.drew⟩
            have f2 : secV (wr.alloc (.cells (cb s).toArray 78)).drew (.pointer (some ⟨wr.heap.size, 0, none⟩)) = cb s := secV_eq hcl (hra _ hB0.drew)
            have HB0 := Lib.hid hB0
            clear hra hB0 hcl
            have HW2 : Hid (((wr.alloc (.cells (cb s).toArray 78)).alloc (.cells (wrCells (a + k, s)).toArray 136)).drew.ownsRow 0 136 65 (.slice Ar' D1.row.length cr') D1.row.length (rowCells D1.row)) := (HD1'.out.row.alloc _).alloc _
            have Hnews : Hid (∀ j u, (wrCells (a + k, s))[j]? = some u → ((wr.alloc (.cells (cb s).toArray 78)).alloc (.cells (wrCells (a + k, s)).toArray 136)).drew.cell? ((⟨wr.heap.size + 1, 0, none⟩ : Addr).add j) = some u) := by
              intro j u hu
              have hb : Blk ((wr.alloc (.cells (cb s).toArray 78)).alloc (.cells (wrCells (a + k, s)).toArray 136)).drew (wr.heap.size + 1) 136 (wrCells (a + k, s)) := by
                have := Blk.new (wr.alloc (.cells (cb s).toArray 78)) 136 (wrCells (a + k, s))
                simpa using this.drew
              rw [Addr.add_mid, hb.cell, Nat.zero_add]
              exact hu
            have Hwl : Hid ((wrCells (a + k, s)).length = 1 * 65) := wrCells_length Hsl.out
            have Hone : Hid (∀ u ∈ wrCells (a + k, s), u.oneCell' = true) := wrCells_one _
            have HW2s : Hid (wr.heap.size ≤ ((wr.alloc (.cells (cb s).toArray 78)).alloc (.cells (wrCells (a + k, s)).toArray 136)).drew.heap.size ∧ ∀ j, j < wr.heap.size → ((wr.alloc (.cells (cb s).toArray 78)).alloc (.cells (wrCells (a + k, s)).toArray 136)).drew.heap[j]? = wr.heap[j]?) := by
              refine ⟨by simp; omega, fun j hj => ?_⟩
              exact (Below.heap_alloc _ _ j (by simp; omega)).trans (Below.heap_alloc wr _ j hj)
            go_region_law (refine step_append_lies ((wr.alloc (.cells (cb s).toArray 78)).alloc (.cells (wrCells (a + k, s)).toArray 136)).drew rfl (.tmp 41) (.tmp 47) 79 rfl 0 136 i0 _ 65 72 Tryz.underlying79 Hi.out.1 Hi.out.2.1 Hi.out.2.2.1 Hi.out.2.2.2 (by rfl) (by omega) (.slice Ar' D1.row.length cr') D1.row.length (rowCells D1.row) (by simp [Act.eval]) HW2.out ⟨wr.heap.size + 1, 0, none⟩ 1 1 (wrCells (a + k, s)) (by simp [Act.eval]) Hwl.out Hnews.out Hone.out (by omega) Hrl.out.1 Hrl.out.2 (Nat.zero_le _) _ rfl ?_; intro g cap w3 ho3 hg3 hat3 hlt3; have J := Lib.hid (HD1'.out.addRow (e := (a + k, s)) HW2s.out.1 HW2s.out.2 ho3 hg3 hat3); have r3 := J.out.2.2.1; have rf := J.out.2.2.2.1; have HG3 := Lib.hid hg3; clear ho3 hg3 hat3 hlt3)
            all_goals
              clear f1 f2 f3 f4 f5 f6
              obtain ⟨w4, hw4⟩ : ∃ w4, w4 = w3.setCell ⟨p, 3, none⟩ (.slice (some ⟨g, 0, none⟩) (D1.row.length + 1) cap) := ⟨_, rfl⟩
              have HD4 : Hid (DiskIn w4 p { D1 with row := D1.row ++ [(a + k, s)] } (look d.dur (d.row ++ chunks a xs k)) Ad (some ⟨gs, 0, none⟩) (some ⟨g, 0, none⟩) cd cs cap) := by rw [hw4]; exact J.out.1
              have HB4 : Hid (Blk w4 wr.heap.size 78 (cb s)) := by
                have h0 : Blk ((wr.alloc (.cells (cb s).toArray 78)).alloc (.cells (wrCells (a + k, s)).toArray 136)).drew wr.heap.size 78 (cb s) := (HB0.out.alloc _).drew
                have h1 : Blk w3 wr.heap.size 78 (cb s) := (HG3.out.block _ h0.lt (fun e => by
                  cases Ar' with
                  | none => simp [Value.ownBlock] at e
                  | some a' =>
                    simp [Value.ownBlock] at e
                    have := HD1'.out.lt a'.block (.inr (.inr (.inr ⟨a', rfl, rfl⟩)))
                    omega)).trans h0
                rw [hw4]
                exact h1.far (p := ⟨p, 3, none⟩) (show wr.heap.size ≠ p by omega) _
              have HO4 : Hid (Only (fun k => F k ∧ k ≠ w.heap.size) w1 w4 ∧ ∀ j, Foot p Ad (some ⟨gs, 0, none⟩) (some ⟨g, 0, none⟩) j → F j ∧ j ≠ w.heap.size) := by
                have hsz := HO.out.size
                have hp := HF1.out p (.inl rfl)
                have h0 : Only (fun k => F k ∧ k ≠ w.heap.size) w1 ((wr.alloc (.cells (cb s).toArray 78)).alloc (.cells (wrCells (a + k, s)).toArray 136)).drew := ((HO.out.alloc HG.out _).alloc HG.out _).drew
                have h1 : Only (fun k => F k ∧ k ≠ w.heap.size) w1 w3 := h0.grown HG3.out HG.out (fun g' hg' => by
                  cases Ar' with
                  | none => simp [Value.ownBlock] at hg'
                  | some a' =>
                    simp [Value.ownBlock] at hg'
                    exact HF1.out g' (.inr (.inr (.inr ⟨a', rfl, hg'⟩))))
                refine ⟨by rw [hw4]; exact h1.setCell (p := ⟨p, 3, none⟩) hp _, fun j hj => ?_⟩
                rcases J.out.2.1 j hj with h2 | h2
                · exact HF1.out j h2
                · exact HG.out j (by simp at h2; omega)
              have Hlt4 : Hid (gs ≠ p ∧ gs ≠ wr.heap.size ∧ w4.there gs ((a + k) * 64) 64) := by
                obtain ⟨g', e1, e2, e3, e4⟩ := seen_at (d := { D1 with row := D1.row ++ [(a + k, s)] }) (a := a + k) HD4.out (by rw [HY0.out, HDD.out]) (by have := Hm.out.2.2.2; show a + k < D1.n; rw [HDD.out]; show a + k < d.n; omega)
                cases e1
                exact ⟨e3, by have := Hgs.out.1; omega, e4⟩
              have HW4 := Lib.hid hw4
              rw [← hw4]
              clear hw4 r3 rf
              have hu := Tryz.underlying78
              have hi : (Tryz.prog.info? 78).map (·.size) = some (cb s).length := Hsz.out.1
              have hl64 : (cb s).length = 64 := by rw [cb_length, Hsl.out]
              have h1c := cb_one s
              have hak0 : (0 : Int) ≤ (a : Int) + (k : Int) := by omega
              have k2 : w4.cell? ⟨p, 2, none⟩ = some (.slice (some ⟨gs, 0, none⟩) d.n cs) := by
                have := HD4.out.blk.cell 2
                rw [HDD.out] at this
                exact this
              have HK2 := Lib.hid k2
              have HR4 : Hid (w4.rangeAt wr.heap.size 0 (cb s)) := fun j v hv => by rw [HB4.out.cell, Nat.zero_add]; exact hv
              have HT4 : Hid (w4.there gs ((a + k) * 64) 64) := Hlt4.out.2.2
              have HS1 : Hid (w4.drew.cell? ⟨p, 2, none⟩ = some (.slice (some ⟨gs, 0, none⟩) d.n cs) ∧ w4.drew.rangeAt wr.heap.size 0 (cb s) ∧ w4.drew.there gs ((a + k) * 64) 64) := ⟨HK2.out, HR4.out, HT4.out⟩
              have HS2 : Hid ((w4.drew.setCells gs ((a + k) * 64) (cb s)).cell? ⟨p, 2, none⟩ = some (.slice (some ⟨gs, 0, none⟩) d.n cs) ∧ (w4.drew.setCells gs ((a + k) * 64) (cb s)).rangeAt wr.heap.size 0 (cb s) ∧ (w4.drew.setCells gs ((a + k) * 64) (cb s)).there gs ((a + k) * 64) 64) := by
                refine ⟨?_, World.rangeAt_setCells_apart HS1.out.2.1 _ _ _ (.inl (Ne.symm Hlt4.out.2.1)), World.there_setCells HS1.out.2.2 _ _ _⟩
                rw [World.cell?_setCells_out gs (cb s) _ _ ⟨p, 2, none⟩ (fun e _ => absurd e (Ne.symm Hlt4.out.1))]
                exact HS1.out.1
              clear k2
              go_wp2
              go_region_held3 (fun w' => w'.cell? ⟨p, 2, none⟩ = some (.slice (some ⟨gs, 0, none⟩) d.n cs) ∧ w'.rangeAt wr.heap.size 0 (cb s) ∧ w'.there gs ((a + k) * 64) 64) (first | exact HS1.out | exact HS2.out) (fail)
              have HN : Hid (WRun w1 (w4.drew.setCells gs ((a + k) * 64) (cb s)) (fun k => F k ∧ k ≠ w.heap.size) p d a xs (k + 1) Ad (some ⟨gs, 0, none⟩) cd cs) := by
                have hp := HD4.out.drew.putSeen (a := a + k) (x := s) (by rw [HY0.out, HDD.out]) (by have := Hm.out.2.2.2; show a + k < D1.n; rw [HDD.out]; show a + k < d.n; omega) Hsl.out rfl
                have e1 : d.row ++ chunks a xs (k + 1) = D1.row ++ [(a + k, s)] := by
                  rw [chunks_succ, HDD.out, Hs.out, List.append_assoc]
                have e2 : look d.dur (d.row ++ chunks a xs (k + 1)) = over (look d.dur (d.row ++ chunks a xs k)) ((a + k) * 64) s := by
                  rw [chunks_succ, ← List.append_assoc, look_append, Hs.out]
                  rfl
                refine ⟨some ⟨g, 0, none⟩, cap, ?_, HO4.out.2, (HO4.out.1.drew).setCells gs _ _ (HO4.out.2 gs (.inr (.inr (.inl ⟨_, rfl, rfl⟩))))⟩
                rw [e2, e1]
                have e3 : { D1 with row := D1.row ++ [(a + k, s)] } = { d with row := D1.row ++ [(a + k, s)] } := by rw [HDD.out]
                rw [← e3]
                exact hp
              clear HS1 HS2 hu hi hl64 h1c hwak
              go_wp2
              go_roundw
              case rel => exact ⟨k + 1, by omega, by go_num, HN.out⟩
              case measure => simp [intOf]; omega
          · have hkm : ¬ (k : Int) < (M' : Int) := by omega
            have HJ : Hid (Holds wr (fun k => F k ∧ k ≠ w.heap.size) p { d with row := d.row ++ chunks a xs M' } ∧ Only F w wr) := by
              obtain rfl : k = M' := by omega
              have hwf := HW.out
              have hh := Hm.out.2.2
              have := Hx.out
              refine ⟨⟨⟨hwf.nl, hwf.lim, hwf.len, hwf.fits.append (chunks_fits (by omega) (by omega)), hwf.left⟩, Ad, As, Ar', cd, cs, cr', HD1.out, HF1.out⟩, ?_⟩
              exact (HO1.out.mono HF.out).trans (HO.out.mono fun j hj => hj.1)
            go_wp2_with (go_at_call 80; refine (op_c _ _ p _ HJ.out.1 ho).mono ?_; rintro e w5 ⟨rfl, hh5, ho5⟩; have H5 := Lib.hid (And.intro hh5 ho5); clear hh5 ho5)
            go_ret
            rw [E.out]
            exact ⟨rfl, H5.out.1.mono (fun j _ hj => hj.1), HJ.out.2.trans (H5.out.2.mono fun j hj => hj.1)⟩
end Go.Proofs.YtbpldkhgiddmlaaGreatDoor.Dk

/-
  Crash of a disk: the walk.
-/
set_option linter.unusedVariables false
namespace Go.Proofs.YtbpldkhgiddmlaaGreatDoor.Dk
open Go.RowKit

end Go.Proofs.YtbpldkhgiddmlaaGreatDoor.Dk

/-
  New, Grow, Read, Copy of a disk.
-/
set_option linter.unusedVariables false
namespace Go.Proofs.YtbpldkhgiddmlaaGreatDoor.Dk
open Go.RowKit

theorem New_c (w : World) (F : Nat → Prop) (hF : ∀ k, w.heap.size ≤ k → F k) (limit : Int) :
    Calls Tryz.prog 30 #[.int .i64 limit] w fun e w' => ∃ p, e = .returned (.pointer (some ⟨p, 0, none⟩)) ∧ Hid (Holds w' F p (Dsk.load [] limit) ∧ Only (w.heap.size ≤ ·) w w') := by
  have h := Load_c w F hF none 0 [] limit ⟨rfl, fun h => absurd h (by decide)⟩ (Nat.le_refl _) (by simp [maxLen])
  have H := h
  clear h
  go_enter Tryz.func30, Tryz.ntmps30
  go_wp2_with (go_at_call 7; refine H.mono ?_; rintro e w' ⟨p, rfl, h1, h2⟩; have h12 := Lib.hid (And.intro h1 h2); clear h1 h2)
  go_ret
  exact ⟨_, rfl, h12⟩

theorem Read_down (w : World) (F : Nat → Prop) (p : Nat) (d : Dsk) (h : Holds w F p d) (at_ many : Int) (hdn : d.down = true) :
    Calls Tryz.prog 55 #[.pointer (some ⟨p, 0, none⟩), .int .i64 at_, .int .i64 many] w fun e w' => e = .returned (.tuple #[.slice none 0 0, .int .i64 10]) ∧ w = w' := by
  obtain ⟨hw, Ad, As, Ar, cd, cs, cr, hd, hf⟩ := h
  have h7 : w.cell? ⟨p, 7, none⟩ = some (.bool d.down) := hd.blk.cell 7
  rw [hdn] at h7
  clear hw hd hf hdn
  go_enter Tryz.func55, Tryz.ntmps55
  go_wp2
  go_ret2
  exact ⟨rfl, rfl⟩

theorem Read_range (w : World) (F : Nat → Prop) (p : Nat) (d : Dsk) (h : Holds w F p d) (at_ many : Int) (ha : -9223372036854775808 ≤ at_) (ha' : at_ ≤ 9223372036854775807) (hdn : d.down = false) (hh : d.has at_ many = false) :
    Calls Tryz.prog 55 #[.pointer (some ⟨p, 0, none⟩), .int .i64 at_, .int .i64 many] w fun e w' => e = .returned (.tuple #[.slice none 0 0, .int .i64 11]) ∧ w = w' := by
  have hc := has_c w F p d h at_ many ha ha'
  rw [hh] at hc
  have Hc := Lib.hid hc
  obtain ⟨hw, Ad, As, Ar, cd, cs, cr, hd, hf⟩ := h
  have h7 : w.cell? ⟨p, 7, none⟩ = some (.bool d.down) := hd.blk.cell 7
  rw [hdn] at h7
  clear hw hd hf hdn hc hh
  go_enter Tryz.func55, Tryz.ntmps55
  go_wp2_with (go_at_call 75; refine Hc.out.mono ?_; rintro e w' ⟨rfl, rfl⟩)
  go_ret2
  exact ⟨rfl, rfl⟩

set_option maxHeartbeats 800000 in
theorem Read_ok (w : World) (F : Nat → Prop) (p : Nat) (d : Dsk) (h : Holds w F p d) (at_ many : Nat) (hdn : d.down = false) (hh : at_ + many ≤ d.n) :
    Calls Tryz.prog 55 #[.pointer (some ⟨p, 0, none⟩), .int .i64 at_, .int .i64 many] w fun e w' => e = .returned (.tuple #[.slice (some ⟨w.heap.size, 0, none⟩) (many * 64) (many * 64), .int .i64 0]) ∧
      Hid (Blk w' w.heap.size 5 (cb ((d.see.drop (at_ * 64)).take (many * 64))) ∧ Only (w.heap.size ≤ ·) w w') := by
  have hn : d.n ≤ 65536 := by have := h.1.nl; have := h.1.lim; omega
  have hc := has_c w F p d h at_ many (by omega) (by omega)
  rw [show d.has at_ many = true by simp [Dsk.has]; omega] at hc
  have Hc := Lib.hid hc
  obtain ⟨hw, Ad, As, Ar, cd, cs, cr, hd, hf⟩ := h
  have h7 : w.cell? ⟨p, 7, none⟩ = some (.bool d.down) := hd.blk.cell 7
  have h2 : w.cell? ⟨p, 2, none⟩ = some (.slice As d.n cs) := hd.blk.cell 2
  rw [hdn] at h7
  have Hcap := Lib.hid (owns_cap hd.seen)
  have hsee := hw.see
  have Hl : Hid ((cb ((d.see.drop (at_ * 64)).take (many * 64))).length = many * 64) := by
    show _ = _
    rw [cb_length, List.length_take, List.length_drop, hsee]
    omega
  have Hs : Hid (0 < many → ∃ ad, As.map (fun x => x.add (at_ * 64)) = some ad ∧ ad.block < w.heap.size ∧ ∀ j u, (cb ((d.see.drop (at_ * 64)).take (many * 64)))[j]? = some u → w.cell? (ad.add j) = some u) := by
    intro hm
    obtain ⟨g, hg⟩ := owns_pos hd.seen (by omega)
    obtain ⟨g', cur, hgg, hb, _⟩ := owns_form hd.seen hg
    cases hgg
    have hA2 : As.map (fun x => x.add (at_ * 64)) = some ⟨g, at_ * 64, none⟩ := by rw [hg, Option.map_some, Addr.add_mid, Nat.zero_add]
    refine ⟨_, hA2, hb.lt, fun j u hu => ?_⟩
    rw [Addr.add_mid, hb.cell]
    rw [cb_take, cb_drop, List.getElem?_take] at hu
    split at hu
    · rw [List.getElem?_drop] at hu
      rw [List.getElem?_append_left (List.getElem?_eq_some_iff.1 hu).1]
      exact hu
    · cases hu
  have h0a : (0 : Int) ≤ (at_ : Int) := by omega
  have h0m : (0 : Int) ≤ (many : Int) := by omega
  have hsum : (at_ : Int) + many ≤ d.n := by omega
  have hsum2 : ((at_ : Int) + many).toNat = at_ + many := by omega
  have hcap : (d.n : Int) ≤ cs := by have := Hcap.out.1; omega
  have hcap2 : (at_ : Int) + many ≤ cs := by omega
  have hm : many ≤ 4294967296 := by omega
  have hle : at_ ≤ at_ + many := by omega
  clear hw hd hf hdn hc hsee hh
  go_enter Tryz.func55, Tryz.ntmps55
  go_wp2_with (go_at_call 75; refine Hc.out.mono ?_; rintro e w' ⟨rfl, rfl⟩)
  all_goals first
    | with_reducible refine (bytesOf_c w _ many _ _ Hl.out Hs.out hm (cb_one _)).mono ?_
    | with_reducible refine (bytesOf_c w _ many _ _ Hl.out (fun h => absurd h (by omega)) hm (cb_one _)).mono ?_
  all_goals
    rintro e w1 ⟨rfl, hb⟩
    have Hb := Lib.hid hb
    clear hb
    go_wp2
    go_ret2
    exact ⟨rfl, Hb⟩
end Go.Proofs.YtbpldkhgiddmlaaGreatDoor.Dk

/-
  Grow of a disk.
-/
set_option linter.unusedVariables false
namespace Go.Proofs.YtbpldkhgiddmlaaGreatDoor.Dk
open Go.RowKit

theorem grow_wf {d : Dsk} (h : d.WF) {m : Nat} (hm : d.n + m ≤ d.limit) : Dsk.WF { d with n := d.n + m, dur := d.dur ++ List.replicate (m * 64) 0 } :=
  ⟨hm, h.lim, by simp [h.len]; omega, fun e he => ⟨Nat.lt_of_lt_of_le (h.fits e he).1 (Nat.le_add_right _ _), (h.fits e he).2⟩, h.left⟩

theorem grow_holds {w w2 w3 : World} {F : Nat → Prop} (hF : ∀ k, w.heap.size ≤ k → F k) {p : Nat} {d : Dsk} (hw : d.WF) {Ad As Ar : Option Addr} {cd cs cr : Nat}
    (hd : DiskIn w p d d.see Ad As Ar cd cs cr) (hf : ∀ k, Foot p Ad As Ar k → F k) (o : Obj) {m g cap g' cap' : Nat} (hm : d.n + m ≤ d.limit)
    (ho2 : w2.ownsRow 0 78 64 (.slice (some ⟨g, 0, none⟩) (d.n + m) cap) (d.n + m) (cb d.dur ++ List.replicate (m * 64) z8)) (hg2 : (w.alloc o).grownBy w2 (Value.ownBlock (.slice Ad d.n cd)))
    (hat : Value.ownBlock (.slice Ad d.n cd) = some g ∨ g = w.heap.size + 1)
    (ho3 : w3.ownsRow 0 78 64 (.slice (some ⟨g', 0, none⟩) (d.n + m) cap') (d.n + m) (cb d.see ++ List.replicate (m * 64) z8)) (hg3 : (w2.setCell ⟨p, 1, none⟩ (.slice (some ⟨g, 0, none⟩) (d.n + m) cap)).grownBy w3 (Value.ownBlock (.slice As d.n cs)))
    (hat3 : Value.ownBlock (.slice As d.n cs) = some g' ∨ g' = w2.heap.size) :
    Holds (w3.setCell ⟨p, 2, none⟩ (.slice (some ⟨g', 0, none⟩) (d.n + m) cap')) F p { d with n := d.n + m, dur := d.dur ++ List.replicate (m * 64) 0 } ∧
      Only F w (w3.setCell ⟨p, 2, none⟩ (.slice (some ⟨g', 0, none⟩) (d.n + m) cap')) := by
  have hplt := hd.blk.lt
  have hs2 : w.heap.size + 1 ≤ w2.heap.size := by have := hg2.size; simpa using this
  have hs3 : w2.heap.size ≤ w3.heap.size := by have := hg3.size; simpa [World.setCell] using this
  have obd : ∀ k, Value.ownBlock (.slice Ad d.n cd) = some k → ∃ a, Ad = some a ∧ a.block = k := by
    intro k hk
    cases Ad with
    | none => simp [Value.ownBlock] at hk
    | some a => exact ⟨a, rfl, by simpa [Value.ownBlock] using hk⟩
  have obs : ∀ k, Value.ownBlock (.slice As d.n cs) = some k → ∃ a, As = some a ∧ a.block = k := by
    intro k hk
    cases As with
    | none => simp [Value.ownBlock] at hk
    | some a => exact ⟨a, rfl, by simpa [Value.ownBlock] using hk⟩
  -- what stays from w to w2, and from w2 (behind the store) to w3
  have u2 : ∀ k, k < w.heap.size → (∀ a, Ad = some a → a.block ≠ k) → w2.heap[k]? = w.heap[k]? := fun k hk hne =>
    (hg2.block k (by simp; omega) (fun e => by obtain ⟨a, ha, hb⟩ := obd k e.symm; exact hne a ha hb)).trans (Below.heap_alloc w o k hk)
  have u3 : ∀ k, k < w2.heap.size → (∀ a, As = some a → a.block ≠ k) → k ≠ p → w3.heap[k]? = w2.heap[k]? := fun k hk hne hp =>
    (hg3.block k (by simpa [World.setCell] using hk) (fun e => by obtain ⟨a, ha, hb⟩ := obs k e.symm; exact hne a ha hb)).trans (Below.heap_setCell w2 ⟨p, 1, none⟩ _ k hp)
  have u4 : ∀ k, k ≠ p → (w3.setCell ⟨p, 2, none⟩ (.slice (some ⟨g', 0, none⟩) (d.n + m) cap')).heap[k]? = w3.heap[k]? := fun k hp => Below.heap_setCell w3 ⟨p, 2, none⟩ _ k hp
  have hgp : g ≠ p := by
    rcases hat with h | h
    · obtain ⟨a, ha, hb⟩ := obd g h
      rw [← hb]; exact hd.ne_d a ha
    · omega
  have hg'p : g' ≠ p := by
    rcases hat3 with h | h
    · obtain ⟨a, ha, hb⟩ := obs g' h
      rw [← hb]; exact hd.ne_s a ha
    · omega
  have hglt : g < w2.heap.size := by
    obtain ⟨_, cur, hgg, hb, _⟩ := owns_form ho2 rfl
    cases hgg
    exact hb.lt
  have hgs : ∀ a, As = some a → a.block ≠ g := by
    intro a ha
    rcases hat with h | h
    · obtain ⟨b, hb, hbg⟩ := obd g h
      have := hd.apart b a hb ha
      omega
    · have := hd.lt a.block (.inr (.inr (.inl ⟨a, ha, rfl⟩)))
      omega
  have bp : Blk (w3.setCell ⟨p, 2, none⟩ (.slice (some ⟨g', 0, none⟩) (d.n + m) cap')) p 81 (((fieldsOf d Ad As Ar cd cs cr).set 1 (.slice (some ⟨g, 0, none⟩) (d.n + m) cap)).set 2 (.slice (some ⟨g', 0, none⟩) (d.n + m) cap')) := by
    have b2 : Blk w2 p 81 (fieldsOf d Ad As Ar cd cs cr) := (u2 p hplt fun a ha => hd.ne_d a ha).trans hd.blk
    have b2' := b2.set_ 1 (.slice (some ⟨g, 0, none⟩) (d.n + m) cap)
    have b3 : Blk w3 p 81 _ := (hg3.block p (by simp [World.setCell]; omega) (fun e => by obtain ⟨a, ha, hb⟩ := obs p e.symm; exact hd.ne_s a ha hb)).trans b2'
    exact b3.set_ 2 _
  have see : Dsk.see { d with n := d.n + m, dur := d.dur ++ List.replicate (m * 64) 0 } = d.see ++ List.replicate (m * 64) 0 := look_grown d.row d.dur _ hw.fits hw.len
  refine ⟨⟨grow_wf hw hm, some ⟨g, 0, none⟩, some ⟨g', 0, none⟩, Ar, cap, cap', cr, ⟨bp, ?_, ?_, ?_, ?_⟩, ?_⟩, ?_⟩
  · refine owns_far (w := w2) (by rw [cb_append, cb_replicate]; exact ho2) fun a ha => ?_
    cases ha
    exact (u4 g hgp).trans (u3 g hglt hgs hgp)
  · refine owns_far (w := w3) (by rw [see, cb_append, cb_replicate]; exact ho3) fun a ha => ?_
    cases ha
    exact u4 g' hg'p
  · refine owns_far (w := w) hd.row fun a ha => ?_
    have hlt := hd.lt a.block (.inr (.inr (.inr ⟨a, ha, rfl⟩)))
    exact ((u4 _ (hd.ne_r a ha)).trans (u3 _ (by omega) (fun b hb => (hd.ne_rs a b ha hb).symm) (hd.ne_r a ha))).trans (u2 _ hlt (fun b hb => (hd.ne_rd a b ha hb).symm))
  · intro a b ha hb
    cases ha; cases hb
    show g ≠ g'
    rcases hat3 with h | h
    · obtain ⟨b, hb, hbg⟩ := obs g' h
      have := hgs b hb
      omega
    · omega
  · rintro k (rfl | ⟨a, ha, rfl⟩ | ⟨a, ha, rfl⟩ | h)
    · exact hf _ (.inl rfl)
    · cases ha
      rcases hat with h | h
      · exact hf _ (.inr (.inl (obd g h)))
      · exact hF _ (by show w.heap.size ≤ g; omega)
    · cases ha
      rcases hat3 with h | h
      · exact hf _ (.inr (.inr (.inl (obs g' h))))
      · exact hF _ (by show w.heap.size ≤ g'; omega)
    · exact hf _ (.inr (.inr (.inr h)))
  · have h1 : Only F w (w.alloc o) := (Only.refl _ _).alloc hF o
    have h2 : Only F w w2 := h1.grown hg2 hF (fun k hk => hf _ (.inr (.inl (obd k hk))))
    have h3 := h2.setCell (p := ⟨p, 1, none⟩) (hf p (.inl rfl)) (.slice (some ⟨g, 0, none⟩) (d.n + m) cap)
    have h4 := h3.grown hg3 hF (fun k hk => hf _ (.inr (.inr (.inl (obs k hk)))))
    exact h4.setCell (p := ⟨p, 2, none⟩) (hf p (.inl rfl)) _

theorem z8_one (k : Nat) : ∀ u ∈ List.replicate k z8, u.oneCell' = true := fun u hu => by rw [(List.mem_replicate.1 hu).2]; rfl

theorem grow_mid {w w2 : World} {p : Nat} {d : Dsk} {Ad As Ar : Option Addr} {cd cs cr : Nat} (hd : DiskIn w p d d.see Ad As Ar cd cs cr) {zs : List Value} {m g cap : Nat}
    (hg2 : (w.alloc (.cells zs.toArray 78)).grownBy w2 (Value.ownBlock (.slice Ad d.n cd))) (V : Value) :
    (∀ i, w2.cell? ⟨p, i, none⟩ = w.cell? ⟨p, i, none⟩) ∧ (∀ i, w2.frozen? ⟨p, i, none⟩ = false) ∧ (w2.setCell ⟨p, 1, none⟩ V).ownsRow 0 78 64 (.slice As d.n cs) d.n (cb d.see) ∧ Blk (w2.setCell ⟨p, 1, none⟩ V) w.heap.size 78 zs := by
  have hplt := hd.blk.lt
  have obd : ∀ k, Value.ownBlock (.slice Ad d.n cd) = some k → ∃ a, Ad = some a ∧ a.block = k := by
    intro k hk
    cases Ad with
    | none => simp [Value.ownBlock] at hk
    | some a => exact ⟨a, rfl, by simpa [Value.ownBlock] using hk⟩
  have u2 : ∀ k, k < w.heap.size → (∀ a, Ad = some a → a.block ≠ k) → w2.heap[k]? = w.heap[k]? := fun k hk hne =>
    (hg2.block k (by simp; omega) (fun e => by obtain ⟨a, ha, hb⟩ := obd k e.symm; exact hne a ha hb)).trans (Below.heap_alloc w _ k hk)
  have hp2 : w2.heap[p]? = w.heap[p]? := u2 p hplt fun a ha => hd.ne_d a ha
  have b2 : Blk w2 p 81 _ := hp2.trans hd.blk
  refine ⟨fun i => World.cell?_of_block (w := w) (a := ⟨p, i, none⟩) hp2, b2.frozen, ?_, ?_⟩
  · refine owns_far hd.seen fun a ha => ?_
    exact (Below.heap_setCell w2 ⟨p, 1, none⟩ V _ (hd.ne_s a ha)).trans (u2 _ (hd.lt _ (.inr (.inr (.inl ⟨a, ha, rfl⟩)))) (fun b hb => hd.apart b a hb ha))
  · have h := Blk.new w 78 zs
    have h2 : Blk w2 w.heap.size 78 zs := (hg2.block _ (by simp) (fun e => by obtain ⟨a, ha, hb⟩ := obd _ e.symm; have := hd.lt a.block (.inr (.inl ⟨a, ha, rfl⟩)); omega)).trans h
    exact h2.far (p := ⟨p, 1, none⟩) (show w.heap.size ≠ p by omega) V

theorem grow_mid2 {w w2 w3 : World} {p : Nat} {d : Dsk} {Ad As Ar : Option Addr} {cd cs cr : Nat} (hd : DiskIn w p d d.see Ad As Ar cd cs cr) {V : Value}
    (hc : ∀ i, w2.cell? ⟨p, i, none⟩ = w.cell? ⟨p, i, none⟩) (hg3 : (w2.setCell ⟨p, 1, none⟩ V).grownBy w3 (Value.ownBlock (.slice As d.n cs))) :
    w3.cell? ⟨p, 2, none⟩ = some (.slice As d.n cs) ∧ w3.frozen? ⟨p, 2, none⟩ = (w2.setCell ⟨p, 1, none⟩ V).frozen? ⟨p, 2, none⟩ := by
  have h2 : w2.cell? ⟨p, 2, none⟩ = some (.slice As d.n cs) := (hc 2).trans (hd.blk.cell 2)
  have hlt : p < w2.heap.size := World.block_lt_of_cell? w2 _ h2
  have hb : w3.heap[p]? = (w2.setCell ⟨p, 1, none⟩ V).heap[p]? := hg3.block p (by simpa [World.setCell] using hlt) (fun e => by
    cases As with
    | none => simp [Value.ownBlock] at e
    | some a => simp [Value.ownBlock] at e; exact hd.ne_s a rfl e.symm)
  refine ⟨?_, World.frozen?_of_block (w := w2.setCell ⟨p, 1, none⟩ V) (a := ⟨p, 2, none⟩) hb⟩
  rw [World.cell?_of_block (w := w2.setCell ⟨p, 1, none⟩ V) (a := ⟨p, 2, none⟩) hb, World.cell?_setCell_other _ _ _ _ (by simp)]
  exact h2

set_option maxRecDepth 100000 in
set_option maxHeartbeats 1600000 in
theorem Grow_c (w : World) (F : Nat → Prop) (hF : ∀ k, w.heap.size ≤ k → F k) (p : Nat) (d : Dsk) (h : Holds w F p d) (n : Int) (hn : -9223372036854775808 ≤ n) (hn' : n ≤ 9223372036854775807) :
    Calls Tryz.prog 61 #[.pointer (some ⟨p, 0, none⟩), .int .i64 n] w fun e w' => e = .returned (.int .i64 (d.grow n).2) ∧ Holds w' F p (d.grow n).1 ∧ Only F w w' := by
  have Hh := Lib.hid h
  obtain ⟨hw, Ad, As, Ar, cd, cs, cr, hd, hf⟩ := h
  have c0 : w.cell? ⟨p, 0, none⟩ = some (.int .i64 d.limit) := hd.blk.cell 0
  have c7 : w.cell? ⟨p, 7, none⟩ = some (.bool d.down) := hd.blk.cell 7
  have c1 : w.cell? ⟨p, 1, none⟩ = some (.slice Ad d.n cd) := hd.blk.cell 1
  have c2 : w.cell? ⟨p, 2, none⟩ = some (.slice As d.n cs) := hd.blk.cell 2
  have fz : ∀ i, w.frozen? ⟨p, i, none⟩ = false := hd.blk.frozen
  have hplt : p < w.heap.size := hd.blk.lt
  have Hd := Lib.hid hd
  have Hf := Lib.hid hf
  have Hw := Lib.hid hw
  have HF := Lib.hid hF
  clear hd hf hw hF
  by_cases hdn : d.down = true
  · have E : Hid (d.grow n = (d, 10)) := by show _ = _; simp [Dsk.grow, hdn]
    rw [hdn] at c7
    clear hdn
    go_enter Tryz.func61, Tryz.ntmps61
    go_wp2
    go_ret
    rw [E.out]
    exact ⟨rfl, Hh.out, Only.refl _ _⟩
  · have hdn' : d.down = false := by simpa using hdn
    rw [hdn'] at c7
    clear hdn
    by_cases hl : (d.limit : Int) < n
    · have E : Hid (d.grow n = (d, 12)) := by show _ = _; simp [Dsk.grow, hdn', hl]
      clear hdn'
      go_enter Tryz.func61, Tryz.ntmps61
      go_wp2
      go_ret
      rw [E.out]
      exact ⟨rfl, Hh.out, Only.refl _ _⟩
    · by_cases hs : (d.n : Int) < n
      · have E : Hid (d.grow n = ({ d with n := d.n + (n.toNat - d.n), dur := d.dur ++ List.replicate ((n.toNat - d.n) * 64) 0 }, 0)) := by
          show _ = _
          simp [Dsk.grow, hdn', hl]
          omega
        have Hm : Hid (d.n + (n.toNat - d.n) ≤ d.limit ∧ 0 < n.toNat - d.n ∧ d.limit ≤ 65536) := ⟨by omega, by omega, Hw.out.lim⟩
        clear hdn'
        generalize hmm : n.toNat - d.n = m at E Hm
        have hmi : n - (d.n : Int) = m := by omega
        obtain ⟨i0, hi0, hz0, hz1, hz2⟩ := info_parts info53
        have hmk : ∀ W : World, (Instr.makeSlice 74 (.int .i64 (n - (d.n : Int))) (.int .i64 (n - (d.n : Int)))).run Tryz.prog W = .ok (.slice (some ⟨W.heap.size, 0, none⟩) m m) (W.alloc (.cells (List.replicate (m * 64) z8).toArray 78)) := by
          intro W
          have hml := Hm.out
          have hr := run_make (P := Tryz.prog) W 74 78 i0 _ Tryz.underlying74 hi0 hz0 .i64 .i64 m m (by omega) (by omega) (by rw [hz2]; omega) (by omega)
          simp only [Int.toNat_natCast] at hr
          rw [made53, hz1] at hr
          rw [hmi]
          exact hr
        clear hmm hmi
        have Hn : Hid (∀ W : World, Blk W w.heap.size 78 (List.replicate (m * 64) z8) → ∀ j u, (List.replicate (m * 64) z8)[j]? = some u → W.cell? ((⟨w.heap.size, 0, none⟩ : Addr).add j) = some u) := by
          intro W hb j u hu
          rw [Addr.add_mid, hb.cell, Nat.zero_add]
          exact hu
        have Hb1 : Hid (Blk (w.alloc (.cells (Array.replicate (m * 64) z8) 78)) w.heap.size 78 (List.replicate (m * 64) z8)) := by
          have := Blk.new w 78 (List.replicate (m * 64) z8)
          rw [List.toArray_replicate] at this
          exact this
        have Ho1 : Hid ((w.alloc (.cells (Array.replicate (m * 64) z8) 78)).ownsRow 0 78 64 (.slice Ad d.n cd) d.n (cb d.dur)) := Hd.out.dur.alloc _
        have Hbound : Hid (d.n + m ≤ maxLen ∧ (d.n + m) * 64 ≤ 140737488355328 ∧ 0 < m) := by have := Hm.out; exact ⟨by simp only [maxLen]; omega, by omega, this.2.1⟩
        have Hi := Lib.hid (And.intro hi0 (And.intro hz0 (And.intro hz1 hz2)))
        clear hi0 hz0 hz1 hz2
        go_enter Tryz.func61, Tryz.ntmps61
        go_wp2_with (first | (go_at_call 21; refine (Size_c _ _ _ _ Hh.out).mono ?_; rintro e w' ⟨rfl, rfl⟩) | (at_builtin; refine wpList_append_lies _ rfl (.tmp 29) (.tmp 30) 74 rfl 0 78 i0 _ 64 64 Tryz.underlying74 Hi.out.1 Hi.out.2.1 Hi.out.2.2.1 Hi.out.2.2.2 (by rfl) (by omega) (.slice Ad d.n cd) d.n (cb d.dur) rfl Ho1.out ⟨w.heap.size, 0, none⟩ m m (List.replicate (m * 64) z8) rfl (by simp) (Hn.out _ Hb1.out) (z8_one _) Hbound.out.2.2 Hbound.out.1 Hbound.out.2.1 (Nat.zero_le _) (w.heap.size + 1) (by simp) ?_; intro g cap w2 ho2 hg2 hat hlt; have J2 := Lib.hid (And.intro ho2 (And.intro hg2 hat)); have J3 := Lib.hid (grow_mid (g := g) (cap := cap) (m := m) (zs := List.replicate (m * 64) z8) Hd.out (by rw [List.toArray_replicate]; exact hg2) (.slice (some ⟨g, 0, none⟩) (d.n + m) cap)); have k1 := (J3.out.1 1).trans c1; have k2 := (J3.out.1 2).trans c2; have kf := J3.out.2.1; clear ho2 hg2 hat hlt) | (at_builtin; refine wpList_append_lies _ rfl (.tmp 38) (.tmp 39) 74 rfl 0 78 i0 _ 64 64 Tryz.underlying74 Hi.out.1 Hi.out.2.1 Hi.out.2.2.1 Hi.out.2.2.2 (by rfl) (by omega) (.slice As d.n cs) d.n (cb d.see) rfl J3.out.2.2.1 ⟨w.heap.size, 0, none⟩ m m (List.replicate (m * 64) z8) rfl (by simp) (Hn.out _ J3.out.2.2.2) (z8_one _) Hbound.out.2.2 Hbound.out.1 Hbound.out.2.1 (Nat.zero_le _) w2.heap.size (by simp) ?_; intro g' cap' w3 ho3 hg3 hat3 hlt3; have J4 := Lib.hid (And.intro ho3 (And.intro hg3 hat3)); have J5 := Lib.hid (grow_mid2 Hd.out J3.out.1 hg3); have q2 := J5.out.1; have qf := J5.out.2; clear ho3 hg3 hat3 hlt3))
        go_ret
        rw [E.out]
        have hh := grow_holds HF.out Hw.out Hd.out Hf.out _ Hm.out.1 J2.out.1 J2.out.2.1 J2.out.2.2 J4.out.1 J4.out.2.1 J4.out.2.2
        exact ⟨rfl, hh.1, hh.2⟩
      · have E : Hid (d.grow n = (d, 0)) := by
          show _ = _
          rw [Dsk.grow, if_neg (by rw [hdn']; decide), if_neg hl, Nat.max_eq_left (by omega), show n.toNat - d.n = 0 by omega]
          simp
        clear hdn'
        go_enter Tryz.func61, Tryz.ntmps61
        go_wp2_with (go_at_call 21; refine (Size_c _ _ _ _ Hh.out).mono ?_; rintro e w' ⟨rfl, rfl⟩)
        go_ret
        rw [E.out]
        exact ⟨rfl, Hh.out, Only.refl _ _⟩
end Go.Proofs.YtbpldkhgiddmlaaGreatDoor.Dk
