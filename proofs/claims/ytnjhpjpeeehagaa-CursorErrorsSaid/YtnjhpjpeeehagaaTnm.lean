/-
  Rows of named nodes, and of steps; the document's Node.
-/
import Derived.Test.YtnjhpjpeeehagaaCpy
import Derived.Test.YtnjhpjpeeehagaaFre
import Derived.Deep.LoopGhost
import Derived.BigQuiet
import Derived.Deep.CutRange
import Derived.Deep.CutBlock
set_option linter.unusedVariables false
namespace Go.Proofs.Ytnjhpjpeeehagaa
open Go.RowKit

abbrev Nm := Int × Nd
/-- A node, and its number. -/
def nmE : El Nm where
  z := 4
  At w x cs := ∃ f v u, cs = [.int .i64 x.1, .bool f, v, u] ∧ Nod w x.2 f v u
  len := fun ⟨f, v, u, e, _⟩ => by rw [e]; rfl
  one := fun ⟨f, v, u, e, h⟩ y hy => by
    obtain ⟨P, p, Q, q, rfl, rfl⟩ := h.out
    rw [e] at hy
    simp at hy
    rcases hy with rfl | rfl | rfl | rfl <;> rfl
  later := fun ⟨f, v, u, e, h⟩ ho => ⟨f, v, u, e, h.later ho⟩
abbrev Nms := Rw nmE
theorem nms_at {w : World} {A : Option Addr} {n c k : Nat} {l : List Nm} (h : Nms w (.slice A n c) l) (hk : k < n) : ∃ (b off : Nat) (x : Nm) (Q R : Option Addr) (s q t r : Nat), A = some ⟨b, off, none⟩ ∧ b < w.heap.size ∧ l[k]? = some x ∧ w.cell? ⟨b, off + k * 4, none⟩ = some (.int .i64 x.1) ∧ w.cell? ⟨b, off + k * 4 + 1, none⟩ = some (.bool x.2.leaf) ∧ w.cell? ⟨b, off + k * 4 + 2, none⟩ = some (.slice Q s q) ∧ w.cell? ⟨b, off + k * 4 + 3, none⟩ = some (.slice R t r) ∧ Nod w x.2 x.2.leaf (.slice Q s q) (.slice R t r) := by
  obtain ⟨b, off, x, cs, e, hb, hx, ⟨f, v, u, rfl, h2⟩, hc⟩ := Rw.at_ (E := nmE) (by decide) h hk
  obtain rfl := h2.1
  obtain ⟨Q, q, R, r, rfl, rfl⟩ := h2.out
  exact ⟨b, off, x, Q, R, _, q, _, r, e, hb, hx, hc 0 _ rfl, hc 1 _ rfl, hc 2 _ rfl, hc 3 _ rfl, h2⟩
/-- A step of the way: its number, its node, the place. -/
abbrev Sp := Int × Nd × Int
def spE : El Sp where
  z := 5
  At w x cs := ∃ f v u, cs = [.int .i64 x.1, .bool f, v, u, .int .i64 x.2.2] ∧ Nod w x.2.1 f v u
  len := fun ⟨f, v, u, e, _⟩ => by rw [e]; rfl
  one := fun ⟨f, v, u, e, h⟩ y hy => by
    obtain ⟨P, p, Q, q, rfl, rfl⟩ := h.out
    rw [e] at hy
    simp at hy
    rcases hy with rfl | rfl | rfl | rfl | rfl <;> rfl
  later := fun ⟨f, v, u, e, h⟩ ho => ⟨f, v, u, e, h.later ho⟩
abbrev Sps := Rw spE
theorem sps_at {w : World} {A : Option Addr} {n c k : Nat} {l : List Sp} (h : Sps w (.slice A n c) l) (hk : k < n) : ∃ (b off : Nat) (x : Sp) (Q R : Option Addr) (s q t r : Nat), A = some ⟨b, off, none⟩ ∧ b < w.heap.size ∧ l[k]? = some x ∧ w.cell? ⟨b, off + k * 5, none⟩ = some (.int .i64 x.1) ∧ w.cell? ⟨b, off + k * 5 + 1, none⟩ = some (.bool x.2.1.leaf) ∧ w.cell? ⟨b, off + k * 5 + 2, none⟩ = some (.slice Q s q) ∧ w.cell? ⟨b, off + k * 5 + 3, none⟩ = some (.slice R t r) ∧ w.cell? ⟨b, off + k * 5 + 4, none⟩ = some (.int .i64 x.2.2) ∧ Nod w x.2.1 x.2.1.leaf (.slice Q s q) (.slice R t r) := by
  obtain ⟨b, off, x, cs, e, hb, hx, ⟨f, v, u, rfl, h2⟩, hc⟩ := Rw.at_ (E := spE) (by decide) h hk
  obtain rfl := h2.1
  obtain ⟨Q, q, R, r, rfl, rfl⟩ := h2.out
  exact ⟨b, off, x, Q, R, _, q, _, r, e, hb, hx, hc 0 _ rfl, hc 1 _ rfl, hc 2 _ rfl, hc 3 _ rfl, hc 4 _ rfl, h2⟩

/-- The first one of a number. -/
def nodeP : List Nm → Int → Option Nd
  | [], _ => none
  | x :: l, r => if x.1 = r then some x.2 else nodeP l r
theorem nodeP_none {l : List Nm} {r : Int} (h : ∀ x ∈ l, x.1 ≠ r) : nodeP l r = none := by
  induction l with
  | nil => rfl
  | cons x l ih =>
    rw [nodeP, if_neg (h x (List.mem_cons_self)), ih fun y hy => h y (List.mem_cons_of_mem _ hy)]
theorem nodeP_at {l : List Nm} {r : Int} {k : Nat} {x : Nm} (hx : l[k]? = some x) (hr : x.1 = r) (h : ∀ y ∈ l.take k, y.1 ≠ r) : nodeP l r = some x.2 := by
  induction l generalizing k with
  | nil => simp at hx
  | cons y l ih =>
    cases k with
    | zero =>
      simp at hx
      subst hx
      rw [nodeP, if_pos hr]
    | succ k =>
      rw [nodeP, if_neg (h y (by simp)), ih (by simpa using hx) fun z hz => h z (by simp [hz])]
theorem nodeP_mem {l : List Nm} {r : Int} {x : Nd} (h : nodeP l r = some x) : ∃ y ∈ l, y.2 = x := by
  induction l with
  | nil => cases h
  | cons y l ih =>
    rw [nodeP] at h
    by_cases hy : y.1 = r
    · rw [if_pos hy] at h
      exact ⟨y, List.mem_cons_self, Option.some.inj h⟩
    · rw [if_neg hy] at h
      obtain ⟨z, hz, e⟩ := ih h
      exact ⟨z, List.mem_cons_of_mem _ hz, e⟩

theorem load_node {w : World} {q : Nat} {t : TypeId} (ht : t = 63 ∨ t = 55) {f : Bool} {A B : Option Addr} {n c m d : Nat} (h : Blk w q t [.bool f, .slice A n c, .slice B m d]) : (loadVar t ⟨q, 0, none⟩).run Try.prog w = .ok (.agg #[.bool f, .slice A n c, .slice B m d]) w := by
  obtain ⟨c0, c1, c2⟩ := h.tri
  rcases ht with rfl | rfl <;> simp [go_sem, c0, c1, c2]
theorem results_cell1 {fn : Func} {P : Program} {p : Tmp} {ty : TypeId} {tmps : Array Value} {w : World} {a : Addr} {v : Value} (h : fn.results = #[.cell p ty]) (ha : tmps.getD p undef = .pointer (some a)) (hl : (loadVar ty a).run P w = .ok v w) :
    (results fn tmps).run P w = .ok v w := by
  rw [Array.getD_eq_getD_getElem?] at ha
  simp only [results, h]
  simp [ha, asAddr, hl]
theorem results_cell2 {fn : Func} {P : Program} {p q : Tmp} {ty : TypeId} {tmps : Array Value} {w : World} {a : Addr} {v x : Value} (h : fn.results = #[.cell p ty, .tmp q]) (ha : tmps.getD p undef = .pointer (some a)) (hx : tmps.getD q undef = x) (hl : (loadVar ty a).run P w = .ok v w) :
    (results fn tmps).run P w = .ok (.tuple #[v, x]) w := by
  rw [Array.getD_eq_getD_getElem?] at ha hx
  simp only [results, h]
  simp [ha, hx, asAddr, hl]

/-- What the document's Node, or the source, tells: a node, and OK; or none, and that there is none. -/
def NodeSays (w : World) (o : Option Nd) (no : Int) (e : Ending) (w' : World) : Prop :=
  (∃ f A n c B m d er, e = .returned (.tuple #[.agg #[.bool f, .slice A n c, .slice B m d], .int .i64 er]) ∧ er = (if o.isSome then 0 else no) ∧ Nod w' (o.getD ⟨false, [], []⟩) f (.slice A n c) (.slice B m d)) ∧ Only (w.heap.size ≤ ·) w w'
/-- A node that stays so whatever is done to blocks below b0, to the block ob, and to new ones. -/
def NodK (b0 : Nat) (ob : Option Nat) (w : World) (x : Nd) (f : Bool) (v u : Value) : Prop := SNod (fun j => j < b0 ∨ ob = some j) w x f v u
section
variable {b0 B : Nat} {ob ob' : Option Nat} {w w' : World} {x : Nd} {f : Bool} {v u : Value}
theorem NodK.at_ (h : NodK b0 ob w x f v u) (W : World) (hW : Only (fun j => j < b0 ∨ ob = some j ∨ w.heap.size ≤ j) w W) : Nod W x f v u := h.nod W (hW.mono fun j hj => by
  rcases hj with h | h | h
  · exact .inl (.inl h)
  · exact .inl (.inr h)
  · exact .inr h)
theorem NodK.now (h : NodK b0 ob w x f v u) : Nod w x f v u := h.at_ w (Only.refl _ _)
theorem NodK.step {F : Nat → Prop} (h : NodK b0 ob w x f v u) (ho : Only F w w') (hF : ∀ j, b0 ≤ j → j < w.heap.size → F j → ob = some j) (hob : ob' = ob ∨ ∃ g, ob' = some g ∧ w.heap.size ≤ g) : NodK b0 ob' w' x f v u := by
  refine SNod.step h (ho.mono fun j hj => ?_) fun j hj => ?_
  · rcases Nat.lt_or_ge j b0 with h1 | h1
    · exact .inl (.inl h1)
    · rcases Nat.lt_or_ge j w.heap.size with h2 | h2
      · exact .inl (.inr (hF j h1 h2 hj))
      · exact .inr h2
  · rcases hj with h1 | h1
    · exact .inl (.inl h1)
    · rcases hob with rfl | ⟨g, rfl, hg⟩
      · exact .inl (.inr h1)
      · cases h1
        exact .inr hg
theorem NodK.re (h : NodK b0 ob w x f v u) (hB : B ≤ b0) (hob : ∀ g, ob' = some g → g < b0 ∨ w.heap.size ≤ g) : NodK B ob' w x f v u := by
  refine SNod.step h (Only.refl _ _) fun j hj => ?_
  rcases hj with h1 | h1
  · exact .inl (.inl (by omega))
  · rcases hob j h1 with h2 | h2
    · exact .inl (.inl h2)
    · exact .inr h2
theorem NodK.later (h : NodK b0 ob w x f v u) (ho : Only (w.heap.size ≤ ·) w w') : NodK b0 ob w' x f v u := h.step ho (fun j _ h1 h2 => absurd h2 (Nat.not_le.2 h1)) (.inl rfl)
theorem NodK.none_ (b0 : Nat) (ob : Option Nat) (w : World) : NodK b0 ob w ⟨false, [], []⟩ false (.slice none 0 0) (.slice none 0 0) := ⟨rfl, SRw.nil_ _ _, SRw.nil_ _ _⟩
end
/-- A node so small: so few entries, keys and values that a slice may take. -/
def Sml (x : Nd) : Prop := x.its.length ≤ 1000 ∧ x.kds.length ≤ 1000 ∧ (∀ y ∈ x.its, y.1.length ≤ 140737488355328 ∧ y.2.1.length ≤ 140737488355328) ∧ ∀ y ∈ x.kds, y.1.length ≤ 140737488355328 ∧ -9223372036854775808 ≤ y.2 ∧ y.2 ≤ 9223372036854775807
theorem Sml.none_ : Sml ⟨false, [], []⟩ := ⟨by simp, by simp, by simp, by simp⟩
theorem Sml.few {x : Nd} (h : Sml x) : x.its.length ≤ 1000 ∧ x.kds.length ≤ 1000 ∧ True := ⟨h.1, h.2.1, trivial⟩
/-- So few nodes, so small ones. -/
def FewN (l : List Nm) : Prop := l.length ≤ 1000 ∧ ∀ x ∈ l, Sml x.2
theorem FewN.get {l : List Nm} (h : FewN l) (r : Int) : Sml ((nodeP l r).getD ⟨false, [], []⟩) := by
  cases hx : nodeP l r with
  | none => exact Sml.none_
  | some x =>
    obtain ⟨y, hy, rfl⟩ := nodeP_mem hx
    exact h.2 y hy
/-- A node stays where another node's variable is written. -/
theorem Nod.keep {w W : World} {g : Nat} {t : TypeId} {f' : Bool} {P' Q' : Option Addr} {p1 p2 q1 q2 : Nat} {x : Nd} {f : Bool} {v u : Value} (h : Nod w x f v u) (hb : Blk w g t [.bool f', .slice P' p1 p2, .slice Q' q1 q2]) (ho : Only (· = g) w W) : Nod W x f v u := by
  obtain ⟨h1, h2, h3⟩ := nod_free hb h
  exact ⟨h1, h2.rw_ W (ho.mono fun _ hk => .inl hk), h3.rw_ W (ho.mono fun _ hk => .inl hk)⟩
/-- What ask tells: as NodeSays, the node of the call's own. -/
def NodeSaysK (w : World) (o : Option Nd) (no : Int) (e : Ending) (w' : World) : Prop :=
  (∃ f A n c B m d er, e = .returned (.tuple #[.agg #[.bool f, .slice A n c, .slice B m d], .int .i64 er]) ∧ er = (if o.isSome then 0 else no) ∧ NodK w.heap.size none w' (o.getD ⟨false, [], []⟩) f (.slice A n c) (.slice B m d)) ∧ Only (w.heap.size ≤ ·) w w'
theorem Nod.none_ (w : World) : Nod w ⟨false, [], []⟩ false (.slice none 0 0) (.slice none 0 0) := ⟨rfl, Rw.nil_ _, Rw.nil_ _⟩
end Go.Proofs.Ytnjhpjpeeehagaa
