/-
  A disk as plain data: what each call makes of it. No memory here.
-/
import Derived.Test.YtdgcplmekkancaaDoorMem
set_option linter.unusedVariables false
namespace Go.Proofs.YtdgcplmekkancaaDoor

abbrev Bytes := List UInt8
def cb (l : Bytes) : List Value := l.map fun b => .int .u8 b.toNat
theorem cb_length (l : Bytes) : (cb l).length = l.length := by simp [cb]
theorem cb_one (l : Bytes) : ∀ v ∈ cb l, v.oneCell' = true := by
  intro v hv
  simp only [cb, List.mem_map] at hv
  obtain ⟨b, _, rfl⟩ := hv
  rfl
theorem cb_append (a b : Bytes) : cb (a ++ b) = cb a ++ cb b := by simp [cb]
theorem cb_take (a : Bytes) (n : Nat) : cb (a.take n) = (cb a).take n := by simp [cb, List.map_take]
theorem cb_drop (a : Bytes) (n : Nat) : cb (a.drop n) = (cb a).drop n := by simp [cb, List.map_drop]
theorem cb_over (a : Bytes) (o : Nat) (b : Bytes) : cb (over a o b) = over (cb a) o (cb b) := over_map _ _ _ _
theorem cb_replicate (n : Nat) : cb (List.replicate n 0) = List.replicate n (.int .u8 0) := by simp [cb]

/-- A write of one sector. -/
abbrev Wr := Nat × Bytes
def wrCells (e : Wr) : List Value := .int .i64 e.1 :: cb e.2
def rowCells (r : List Wr) : List Value := r.flatMap wrCells
def put (s : Bytes) (e : Wr) : Bytes := over s (e.1 * 64) e.2
def look (s : Bytes) (r : List Wr) : Bytes := r.foldl put s
def Fits (n : Nat) (r : List Wr) : Prop := ∀ e ∈ r, e.1 < n ∧ e.2.length = 64

theorem rowCells_append (a b : List Wr) : rowCells (a ++ b) = rowCells a ++ rowCells b := by simp [rowCells]
theorem rowCells_one (e : Wr) : rowCells [e] = wrCells e := by simp [rowCells]
theorem rowCells_length {n : Nat} : ∀ (r : List Wr), Fits n r → (rowCells r).length = r.length * 65
  | [], _ => by simp [rowCells]
  | e :: r, h => by
    have h1 := (h e (by simp)).2
    have ih := rowCells_length r (fun x hx => h x (by simp [hx]))
    unfold rowCells at ih ⊢
    rw [List.flatMap_cons, List.length_append, ih]
    simp [wrCells, cb_length, h1]
    omega
theorem rowCells_one' (r : List Wr) : ∀ v ∈ rowCells r, v.oneCell' = true := by
  intro v hv
  simp only [rowCells, List.mem_flatMap] at hv
  obtain ⟨e, _, hv⟩ := hv
  simp only [wrCells, List.mem_cons] at hv
  rcases hv with rfl | hv
  · rfl
  · exact cb_one _ v hv
theorem rowCells_at {n : Nat} : ∀ (r : List Wr) (k : Nat) (hk : k < r.length), Fits n r → ((rowCells r).drop (k * 65)).take 65 = wrCells r[k]
  | e :: r, 0, _, h => by
    have h1 := (h e (by simp)).2
    have : (wrCells e).length = 65 := by simp [wrCells, cb_length, h1]
    simp only [rowCells, List.flatMap_cons, Nat.zero_mul, List.drop_zero, List.getElem_cons_zero]
    rw [List.take_append_of_le_length (by omega), List.take_of_length_le (by omega)]
  | e :: r, k + 1, hk, h => by
    have h1 := (h e (by simp)).2
    have hl : (wrCells e).length = 65 := by simp [wrCells, cb_length, h1]
    have ih := rowCells_at r k (by simpa using hk) (fun x hx => h x (by simp [hx]))
    simp only [rowCells, List.flatMap_cons, List.getElem_cons_succ] at ih ⊢
    have e1 : ∀ X : List Value, (wrCells e ++ X).drop 65 = X := fun X => by rw [← hl]; exact List.drop_left
    rw [show (k + 1) * 65 = 65 + k * 65 by omega, ← List.drop_drop, e1]
    exact ih
theorem look_append (s : Bytes) (a b : List Wr) : look s (a ++ b) = look (look s a) b := by simp [look]
theorem look_length {n : Nat} : ∀ (r : List Wr) (s : Bytes), Fits n r → s.length = n * 64 → (look s r).length = n * 64
  | [], s, _, hs => hs
  | e :: r, s, h, hs => by
    have h1 := h e (by simp)
    exact look_length r _ (fun x hx => h x (by simp [hx])) ((over_length _ _ _ (by omega)).trans hs)
theorem Fits.append {n : Nat} {a b : List Wr} (ha : Fits n a) (hb : Fits n b) : Fits n (a ++ b) := fun e he => by
  rcases List.mem_append.1 he with h | h
  · exact ha e h
  · exact hb e h
theorem Fits.take {n : Nat} {a : List Wr} (ha : Fits n a) (k : Nat) : Fits n (a.take k) := fun e he => ha e (List.mem_of_mem_take he)
theorem look_grown {n : Nat} : ∀ (r : List Wr) (s t : Bytes), Fits n r → s.length = n * 64 → look (s ++ t) r = look s r ++ t
  | [], s, t, _, _ => rfl
  | e :: r, s, t, h, hs => by
    have h1 := h e (by simp)
    have hp : put (s ++ t) e = put s e ++ t := over_append _ _ _ _ (by omega)
    show look (put (s ++ t) e) r = look (put s e) r ++ t
    rw [hp]
    exact look_grown r _ t (fun x hx => h x (by simp [hx])) ((over_length _ _ _ (by omega)).trans hs)

structure Dsk where
  limit : Nat
  n : Nat
  dur : Bytes
  row : List Wr
  ops : Nat
  armed : Bool
  left : Nat
  down : Bool

structure Dsk.WF (d : Dsk) : Prop where
  nl : d.n ≤ d.limit
  lim : d.limit ≤ 65536
  len : d.dur.length = d.n * 64
  fits : Fits d.n d.row
  left : d.left < 9223372036854775808

def Dsk.see (d : Dsk) : Bytes := look d.dur d.row
theorem Dsk.WF.see {d : Dsk} (h : d.WF) : d.see.length = d.n * 64 := look_length _ _ h.fits h.len

/-- The first k sectors of bytes, as writes from 'at' on. -/
def chunks (at_ : Nat) (xs : Bytes) (k : Nat) : List Wr := (List.range k).map fun j => (at_ + j, (xs.drop (j * 64)).take 64)
theorem chunks_succ (at_ : Nat) (xs : Bytes) (k : Nat) : chunks at_ xs (k + 1) = chunks at_ xs k ++ [(at_ + k, (xs.drop (k * 64)).take 64)] := by simp [chunks, List.range_succ]
theorem chunks_length (at_ : Nat) (xs : Bytes) (k : Nat) : (chunks at_ xs k).length = k := by simp [chunks]
theorem chunks_fits {n at_ : Nat} {xs : Bytes} {k : Nat} (h1 : at_ + k ≤ n) (h2 : k * 64 ≤ xs.length) : Fits n (chunks at_ xs k) := by
  intro e he
  simp only [chunks, List.mem_map, List.mem_range] at he
  obtain ⟨j, hj, rfl⟩ := he
  exact ⟨by show at_ + j < n; omega, by simp; omega⟩

def Dsk.op (d : Dsk) : Dsk × Int :=
  if d.armed = false then ({ d with ops := d.ops + 1 }, 0)
  else if 0 < d.left then ({ d with ops := d.ops + 1, left := d.left - 1 }, 0)
  else ({ d with ops := d.ops + 1, down := true }, 10)
def Dsk.has (d : Dsk) (at_ many : Int) : Bool := decide (0 ≤ at_) && (decide (0 ≤ many) && decide (many ≤ d.n - at_))
def Dsk.write (d : Dsk) (at_ : Int) (xs : Bytes) : Dsk × Int :=
  if d.down = true then (d, 10)
  else if xs.length = 0 ∨ xs.length % 64 ≠ 0 then (d, 1)
  else if d.has at_ (xs.length / 64 : Nat) = false then (d, 11)
  else Dsk.op { d with row := d.row ++ chunks at_.toNat xs (xs.length / 64) }
def Dsk.sync (d : Dsk) : Dsk × Int :=
  if d.down = true then (d, 10)
  else if d.op.2 ≠ 0 then d.op
  else ({ d.op.1 with dur := d.see, row := [] }, 0)
def keepAt (keep : List Bool) (k : Nat) : Bool := decide (0 < keep.length) && keep.getD (k % keep.length) false
def kept (keep : List Bool) (r : List Wr) (k : Nat) : List Wr := (List.range k).filterMap fun j => if keepAt keep j = true then r[j]? else none
def Dsk.crash (d : Dsk) (keep : List Bool) : Dsk :=
  { d with dur := look d.dur (kept keep d.row d.row.length), row := [], armed := false, left := 0, down := false }
def Dsk.arm (d : Dsk) (n : Int) : Dsk := { d with armed := decide (0 ≤ n), left := n.toNat }
def Dsk.grow (d : Dsk) (n : Int) : Dsk × Int :=
  if d.down = true then (d, 10)
  else if (d.limit : Int) < n then (d, 12)
  else ({ d with n := max d.n n.toNat, dur := d.dur ++ List.replicate ((n.toNat - d.n) * 64) 0 }, 0)
def pad (xs : Bytes) : Bytes := xs ++ List.replicate ((xs.length + 63) / 64 * 64 - xs.length) 0
def cut (limit : Int) : Nat := min limit.toNat 65536
def Dsk.load (xs : Bytes) (limit : Int) : Dsk :=
  { limit := cut limit, n := ((xs.take (cut limit * 64)).length + 63) / 64, dur := pad (xs.take (cut limit * 64)), row := [], ops := 0, armed := false, left := 0, down := false }

theorem kept_succ (keep : List Bool) (r : List Wr) (k : Nat) (hk : k < r.length) : kept keep r (k + 1) = kept keep r k ++ if keepAt keep k = true then [r[k]] else [] := by
  unfold kept
  rw [List.range_succ, List.filterMap_append]
  congr 1
  by_cases h : keepAt keep k = true
  · simp [h, hk]
  · simp [h]
theorem kept_mem (keep : List Bool) (r : List Wr) (k : Nat) : ∀ e ∈ kept keep r k, e ∈ r := by
  intro e he
  simp only [kept, List.mem_filterMap] at he
  obtain ⟨j, _, hj⟩ := he
  split at hj
  · exact List.mem_of_getElem? hj
  · cases hj
theorem kept_fits {n : Nat} {keep : List Bool} {r : List Wr} {k : Nat} (h : Fits n r) : Fits n (kept keep r k) := fun e he => h e (kept_mem _ _ _ e he)

theorem Dsk.op_see (d : Dsk) : d.op.1.see = d.see := by unfold Dsk.op Dsk.see; split <;> (try split) <;> rfl
theorem Dsk.WF.op {d : Dsk} (h : d.WF) : d.op.1.WF := by
  unfold Dsk.op
  split
  · exact ⟨h.nl, h.lim, h.len, h.fits, h.left⟩
  · split
    · exact ⟨h.nl, h.lim, h.len, h.fits, by show d.left - 1 < _; have := h.left; omega⟩
    · exact ⟨h.nl, h.lim, h.len, h.fits, h.left⟩
theorem pad_length (xs : Bytes) : (pad xs).length = (xs.length + 63) / 64 * 64 := by simp [pad]; omega
theorem Dsk.WF.load (xs : Bytes) (limit : Int) : (Dsk.load xs limit).WF := by
  refine ⟨?_, ?_, ?_, ?_, by simp [Dsk.load]⟩
  · simp only [Dsk.load, List.length_take]; omega
  · simp only [Dsk.load, cut]; omega
  · simp only [Dsk.load, pad_length]
  · intro e he; simp [Dsk.load] at he

end Go.Proofs.YtdgcplmekkancaaDoor
