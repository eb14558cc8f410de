/-
  Crash of a disk.
-/
import Derived.Test.YtdgcplmekkancaaDoorSync
set_option linter.unusedVariables false
namespace Go.Proofs.YtdgcplmekkancaaDoor
open Go.RowKit

/-- The sectors of the row's places, laid anew out of X. -/
def refix (X s : Bytes) (r : List Wr) : Bytes := r.foldl (fun s e => over s (e.1 * 64) ((X.drop (e.1 * 64)).take 64)) s
theorem refix_append (X s : Bytes) (a b : List Wr) : refix X s (a ++ b) = refix X (refix X s a) b := by simp [refix]
theorem sect_length {X : Bytes} {n a : Nat} (h : X.length = n * 64) (ha : a < n) : ((X.drop (a * 64)).take 64).length = 64 := by simp; omega
theorem refix_length {n : Nat} {X : Bytes} (hX : X.length = n * 64) : ∀ (r : List Wr) (s : Bytes), Fits n r → s.length = n * 64 → (refix X s r).length = n * 64
  | [], s, _, hs => hs
  | e :: r, s, h, hs => by
    have h1 := h e (by simp)
    exact refix_length hX r _ (fun x hx => h x (by simp [hx])) ((over_length _ _ _ (by rw [sect_length hX h1.1]; omega)).trans hs)
theorem over_sect_get {n : Nat} {X s : Bytes} {a : Nat} (hX : X.length = n * 64) (hs : s.length = n * 64) (ha : a < n) (i : Nat) :
    (over s (a * 64) ((X.drop (a * 64)).take 64))[i]? = if i / 64 = a then X[i]? else s[i]? := by
  rw [over_get _ _ _ (by rw [sect_length hX ha]; omega), sect_length hX ha]
  by_cases h : i / 64 = a
  · rw [if_pos h, if_pos (by omega), List.getElem?_take, if_pos (by omega), List.getElem?_drop]
    congr 1
    omega
  · rw [if_neg h, if_neg (by omega)]
theorem refix_get {n : Nat} {X : Bytes} (hX : X.length = n * 64) (i : Nat) : ∀ (r : List Wr) (s : Bytes), Fits n r → s.length = n * 64 →
    (refix X s r)[i]? = if ∃ e ∈ r, e.1 = i / 64 then X[i]? else s[i]?
  | [], s, _, hs => by simp [refix]
  | e :: r, s, h, hs => by
    have h1 := h e (by simp)
    have ih := refix_get hX i r (over s (e.1 * 64) ((X.drop (e.1 * 64)).take 64)) (fun x hx => h x (by simp [hx])) ((over_length _ _ _ (by rw [sect_length hX h1.1]; omega)).trans hs)
    show (refix X (over s (e.1 * 64) ((X.drop (e.1 * 64)).take 64)) r)[i]? = _
    rw [ih, over_sect_get hX hs h1.1]
    by_cases c1 : ∃ x ∈ r, x.1 = i / 64
    · rw [if_pos c1, if_pos (by obtain ⟨x, hx, hx2⟩ := c1; exact ⟨x, by simp [hx], hx2⟩)]
    · rw [if_neg c1]
      by_cases c2 : i / 64 = e.1
      · rw [if_pos c2, if_pos ⟨e, by simp, c2.symm⟩]
      · rw [if_neg c2, if_neg (by
          rintro ⟨x, hx, hx2⟩
          rcases List.mem_cons.1 hx with rfl | hx
          · exact c2 hx2.symm
          · exact c1 ⟨x, hx, hx2⟩)]
theorem look_get {n : Nat} (i : Nat) : ∀ (r : List Wr) (s : Bytes), Fits n r → s.length = n * 64 → (∀ e ∈ r, e.1 ≠ i / 64) → (look s r)[i]? = s[i]?
  | [], s, _, _, _ => rfl
  | e :: r, s, h, hs, hn => by
    have h1 := h e (by simp)
    have hp : (put s e).length = n * 64 := (over_length _ _ _ (by omega)).trans hs
    show (look (put s e) r)[i]? = _
    rw [look_get i r _ (fun x hx => h x (by simp [hx])) hp (fun x hx => hn x (by simp [hx]))]
    have := hn e (by simp)
    rw [put, over_get _ _ _ (by omega), if_neg (by omega)]
/-- What is seen, its row's places laid anew out of what is durable now, is what is durable now. -/
theorem refix_crash {d : Dsk} (hw : d.WF) (keep : List Bool) : refix (look d.dur (kept keep d.row d.row.length)) d.see d.row = look d.dur (kept keep d.row d.row.length) := by
  have hX : (look d.dur (kept keep d.row d.row.length)).length = d.n * 64 := look_length _ _ (kept_fits hw.fits) hw.len
  apply List.ext_getElem?
  intro i
  rw [refix_get hX i _ _ hw.fits hw.see]
  split
  · rfl
  · rename_i h
    have hn : ∀ e ∈ d.row, e.1 ≠ i / 64 := fun e he hi => h ⟨e, he, hi⟩
    rw [Dsk.see, look_get i _ _ hw.fits hw.len hn, look_get i _ _ (kept_fits hw.fits) hw.len (fun e he => hn e (kept_mem _ _ _ e he))]

section
variable {w wk : World} {F : Nat → Prop} {p : Nat} {d : Dsk} {X Y : Bytes} {Ad As Ar : Option Addr} {cd cs cr : Nat}
theorem heap_setCells_far (g k : Nat) (hk : k ≠ g) : ∀ (vs : List Value) (o : Nat) (W : World), (W.setCells g o vs).heap[k]? = W.heap[k]?
  | [], _, _ => rfl
  | v :: r, o, W => by rw [World.setCells, heap_setCells_far g k hk r]; exact Below.heap_setCell W ⟨g, o, none⟩ v k hk
theorem Run.alloc (h : Run w wk F p d X Y Ad As Ar cd cs cr) (hF : ∀ k, w.heap.size ≤ k → F k) (o : Obj) : Run w (wk.alloc o) F p d X Y Ad As Ar cd cs cr :=
  ⟨h.disk.alloc o, h.only.alloc hF o⟩
theorem Run.stepS (h : Run w wk F p d X Y Ad As Ar cd cs cr) (hF : ∀ k, w.heap.size ≤ k → F k) (hf : ∀ k, Foot p Ad As Ar k → F k) (o : Obj) {a : Nat} {x : Bytes} (hl : Y.length = d.n * 64) (he : a < d.n) (he2 : x.length = 64) {g : Nat} (hg : As = some ⟨g, 0, none⟩) :
    Run w ((wk.alloc o).drew.setCells g (a * 64) (cb x)) F p d X (over Y (a * 64) x) Ad As Ar cd cs cr := by
  obtain ⟨g', cur, hgg, hb, hbl, hnc, hcm⟩ := owns_form h.disk.seen hg
  cases hgg
  have hd1 : DiskIn (wk.alloc o).drew p { d with dur := X } Y Ad As Ar cd cs cr := (h.disk.alloc o).drew
  have hb1 : Blk (wk.alloc o).drew g 47 (cb Y ++ cur) := (hb.alloc o).drew
  have hfar : ∀ k, k ≠ g → ((wk.alloc o).drew.setCells g (a * 64) (cb x)).heap[k]? = (wk.alloc o).drew.heap[k]? := fun k hk => heap_setCells_far g k hk _ _ _
  have hcl : (cb x).length = 64 := by rw [cb_length, he2]
  have hYl : (cb Y).length = d.n * 64 := by rw [cb_length, hl]
  have hb2 : Blk ((wk.alloc o).drew.setCells g (a * 64) (cb x)) g 47 (cb (over Y (a * 64) x) ++ cur) := by
    have := hb1.setN (cb x) (a * 64) (by rw [List.length_append, hYl, hcl]; omega)
    rw [over_append _ _ _ _ (by rw [hYl, hcl]; omega), ← cb_over] at this
    exact this
  have hpl : (over Y (a * 64) x).length = d.n * 64 := (over_length _ _ _ (by omega)).trans hl
  refine ⟨⟨(hfar p (by have := hd1.ne_s _ hg; exact this.symm)).trans hd1.blk, ?_, ?_, ?_, hd1.apart⟩, ((h.only.alloc hF o).drew).setCells g _ _ (hf g (.inr (.inr (.inl ⟨_, hg, rfl⟩))))⟩
  · exact owns_far hd1.dur fun b hb => hfar _ (fun e => hd1.apart b _ hb hg e)
  · rw [hg]
    exact owns_mk hb2 (by rw [cb_length, hpl]) (by rw [List.length_append, cb_length, hpl, ← hbl, List.length_append, hYl]) hnc hcm
  · exact owns_far hd1.row fun b hb => hfar _ (fun e => hd1.ne_rs b _ hb hg e)
theorem seen_at (hd : DiskIn wk p d Y Ad As Ar cd cs cr) {a : Nat} (hl : Y.length = d.n * 64) (he : a < d.n) :
    ∃ g, As = some ⟨g, 0, none⟩ ∧ g < wk.heap.size ∧ g ≠ p ∧ wk.there g (a * 64) 64 := by
  obtain ⟨g, hg⟩ := owns_pos hd.seen (by omega)
  obtain ⟨g', cur, hgg, hb, hbl, hnc, _⟩ := owns_form hd.seen hg
  cases hgg
  exact ⟨g, hg, hb.lt, hd.ne_s _ hg, hb.there _ _ (by rw [List.length_append, cb_length, hl]; omega)⟩
theorem dur_range (hd : DiskIn wk p d Y Ad As Ar cd cs cr) {a : Nat} (hl : d.dur.length = d.n * 64) (he : a < d.n) :
    ∃ g, Ad = some ⟨g, 0, none⟩ ∧ g < wk.heap.size ∧ g ≠ p ∧ wk.rangeAt g (a * 64) (cb ((d.dur.drop (a * 64)).take 64)) := by
  obtain ⟨g, hg⟩ := owns_pos hd.dur (by omega)
  obtain ⟨g', cur, hgg, hb, hbl, hnc, _⟩ := owns_form hd.dur hg
  cases hgg
  refine ⟨g, hg, hb.lt, hd.ne_d _ hg, ?_⟩
  have h := hb.range (a * 64) 64
  rw [List.drop_append_of_le_length (by rw [cb_length]; omega), List.take_append_of_le_length (by rw [List.length_drop, cb_length]; omega), ← cb_drop, ← cb_take] at h
  exact h
end

/-- What the region that lays a sector anew reads, and where it stores. -/
def Ready2 (p gd gs n cd cs B : Nat) (a : Nat) (x : Bytes) (w' : World) : Prop :=
  w'.cell? ⟨p, 1, none⟩ = some (.slice (some ⟨gd, 0, none⟩) n cd) ∧ w'.cell? ⟨p, 2, none⟩ = some (.slice (some ⟨gs, 0, none⟩) n cs) ∧ w'.cell? ⟨B, 0, none⟩ = some (.int .i64 a) ∧ w'.rangeAt gd (a * 64) (cb x) ∧ w'.there gs (a * 64) 64
theorem Ready2.mk {wr : World} {p gd gs n cd cs : Nat} {e : Wr} {x : Bytes} (h1 : wr.cell? ⟨p, 1, none⟩ = some (.slice (some ⟨gd, 0, none⟩) n cd)) (h2 : wr.cell? ⟨p, 2, none⟩ = some (.slice (some ⟨gs, 0, none⟩) n cs))
    (h3 : wr.rangeAt gd (e.1 * 64) (cb x)) (h4 : wr.there gs (e.1 * 64) 64) :
    Ready2 p gd gs n cd cs wr.heap.size e.1 x (wr.alloc (.cells (wrCells e).toArray 53)) := by
  have hb : Blk (wr.alloc (.cells (wrCells e).toArray 53)) wr.heap.size 53 (wrCells e) := Blk.new wr 53 _
  refine ⟨?_, ?_, hb.cell 0, World.rangeAt_alloc h3 _, World.there_alloc h4 _⟩
  · rw [World.cell?_alloc_lt _ _ _ (World.block_lt_of_cell? wr _ h1)]; exact h1
  · rw [World.cell?_alloc_lt _ _ _ (World.block_lt_of_cell? wr _ h2)]; exact h2
theorem Ready2.stored {w' : World} {p gd gs n cd cs B a : Nat} {x : Bytes} (h : Ready2 p gd gs n cd cs B a x w') (hp : gs ≠ p) (hB : gs ≠ B) (hd : gd ≠ gs) (vs : List Value) : Ready2 p gd gs n cd cs B a x (w'.setCells gs (a * 64) vs) := by
  obtain ⟨h1, h2, h3, h4, h5⟩ := h
  refine ⟨?_, ?_, ?_, World.rangeAt_setCells_apart h4 _ _ _ (.inl hd), World.there_setCells h5 _ _ _⟩
  · rw [World.cell?_setCells_out gs vs _ _ ⟨p, 1, none⟩ (fun e _ => absurd e (Ne.symm hp))]; exact h1
  · rw [World.cell?_setCells_out gs vs _ _ ⟨p, 2, none⟩ (fun e _ => absurd e (Ne.symm hp))]; exact h2
  · rw [World.cell?_setCells_out gs vs _ _ ⟨B, 0, none⟩ (fun e _ => absurd e (Ne.symm hB))]; exact h3
end Go.Proofs.YtdgcplmekkancaaDoor
