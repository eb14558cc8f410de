/-
  Nodes as plain data: how much room they take, how they are cut, what the pieces are.
-/
import Derived.Test.YtnjhpjpeeehagaaItm
import Derived.Test.YtnjhpjpeeehagaaRow
set_option linter.unusedVariables false
namespace Go.Proofs.Ytnjhpjpeeehagaa
open Go.RowKit

def irm (g : Int) (x : It) : Int := room g x.1.length x.2.1.length x.2.2.2
def krm (g : Int) (x : Kd) : Int := kid g x.1.length
def rms (g : Int) (x : Nd) : List Int := if x.leaf = true then x.its.map (irm g) else x.kds.map (krm g)
def many (x : Nd) : Nat := if x.leaf = true then x.its.length else x.kds.length
theorem rms_length (g : Int) (x : Nd) : (rms g x).length = many x := by unfold rms many; split <;> simp
def nrm (g : Int) (x : Nd) : Int := (rms g x).sum
def nfit (g : Int) (x : Nd) : Bool := decide (nrm g x ≤ tr g 248 240 240)

/-- How much the first k take. -/
def pre (l : List Int) (k : Nat) : Int := (l.take k).sum
theorem pre_zero (l : List Int) : pre l 0 = 0 := rfl
theorem pre_succ {l : List Int} {k : Nat} {a : Int} (h : l[k]? = some a) : pre l (k + 1) = pre l k + a := by
  unfold pre; rw [List.take_add_one, h]; simp
theorem pre_all (l : List Int) : pre l l.length = l.sum := by unfold pre; rw [List.take_length]
/-- Every number is at least 0 and at most b. -/
def Each (b : Int) (l : List Int) : Prop := ∀ a ∈ l, 0 ≤ a ∧ a ≤ b
theorem Each.sum {b : Int} (hb : 0 ≤ b) : ∀ {l : List Int}, Each b l → 0 ≤ l.sum ∧ l.sum ≤ l.length * b
  | [], _ => by simp
  | a :: l, h => by
    have h1 := h a (by simp)
    have h2 := Each.sum hb (fun x hx => h x (List.mem_cons_of_mem _ hx) : Each b l)
    rw [List.sum_cons, List.length_cons]
    have e : ((l.length + 1 : Nat) : Int) * b = l.length * b + b := by rw [Int.natCast_succ, Int.add_mul, Int.one_mul]
    rw [e]
    omega
theorem Each.pre {b : Int} (hb : 0 ≤ b) {l : List Int} (h : Each b l) (k : Nat) : 0 ≤ pre l k ∧ Proofs.Ytnjhpjpeeehagaa.pre l k ≤ l.sum := by
  have h1 : Each b (l.take k) := fun a ha => h a (List.mem_of_mem_take ha)
  have h2 : Each b (l.drop k) := fun a ha => h a (List.mem_of_mem_drop ha)
  have e : l.sum = (l.take k).sum + (l.drop k).sum := by rw [← List.sum_append, List.take_append_drop]
  have := (Each.sum hb h1).1
  have := (Each.sum hb h2).1
  show 0 ≤ (l.take k).sum ∧ (l.take k).sum ≤ l.sum
  omega

/-- The place at which such a row is cut. -/
def IsMid (l : List Int) (k : Nat) : Prop := 1 ≤ k ∧ k < l.length ∧ (∀ j, 1 ≤ j → j < k → 2 * pre l j < l.sum) ∧ (l.sum ≤ 2 * pre l k ∨ k + 1 = l.length)
theorem IsMid.uniq {l : List Int} {k m : Nat} (h : IsMid l k) (h' : IsMid l m) : k = m := by
  obtain ⟨h1, h2, h3, h4⟩ := h
  obtain ⟨g1, g2, g3, g4⟩ := h'
  rcases Nat.lt_trichotomy k m with c | c | c
  · have := g3 k h1 c
    omega
  · exact c
  · have := h3 m g1 c
    omega

def headK (key : Bytes) : List Kd → List Kd
  | [] => []
  | x :: l => (key, x.2) :: l
theorem headK_length (key : Bytes) : ∀ l, (headK key l).length = l.length
  | [] => rfl
  | _ :: _ => rfl
def fstN (k : Nat) (x : Nd) : Nd := if x.leaf = true then ⟨true, x.its.take k, []⟩ else ⟨false, [], x.kds.take k⟩
def sndN (k : Nat) (x : Nd) : Nd := if x.leaf = true then ⟨true, x.its.drop k, []⟩ else ⟨false, [], headK [] (x.kds.drop k)⟩
def keyN (k : Nat) (x : Nd) : Bytes := if x.leaf = true then (x.its[k]?.map (·.1)).getD [] else (x.kds[k]?.map (·.1)).getD []
theorem many_fst {k : Nat} {x : Nd} (h : k ≤ many x) : many (fstN k x) = k := by
  unfold fstN many at *
  cases hx : x.leaf <;> simp [hx] at h ⊢ <;> omega
theorem many_snd (k : Nat) (x : Nd) : many (sndN k x) = many x - k := by
  unfold sndN many
  cases hx : x.leaf <;> simp [headK_length]
/-- Which pieces a node with a key is cut into. -/
inductive Cuts (g : Int) : Bytes → Nd → List Pt → Prop
  | one (key : Bytes) (x : Nd) : nfit g x = true ∨ many x < 2 → Cuts g key x [(key, x)]
  | cut (key : Bytes) (x : Nd) (k : Nat) (l m : List Pt) : nfit g x = false → 2 ≤ many x → IsMid (rms g x) k → Cuts g key (fstN k x) l → Cuts g (keyN k x) (sndN k x) m → Cuts g key x (l ++ m)
theorem Cuts.uniq {g : Int} {key : Bytes} {x : Nd} {l m : List Pt} (h : Cuts g key x l) (h' : Cuts g key x m) : l = m := by
  induction h generalizing m with
  | one key x hx =>
    cases h' with
    | one _ _ _ => rfl
    | cut _ _ k a b h1 h2 =>
      rcases hx with hx | hx
      · rw [hx] at h1; cases h1
      · omega
  | cut key x k a b h1 h2 h3 h4 h5 ih1 ih2 =>
    cases h' with
    | one _ _ hx =>
      rcases hx with hx | hx
      · rw [hx] at h1; cases h1
      · omega
    | cut _ _ k' a' b' g1 g2 g3 g4 g5 =>
      obtain rfl := h3.uniq g3
      rw [ih1 g4, ih2 g5]
theorem Cuts.head {g : Int} {key : Bytes} {x : Nd} {l : List Pt} (h : Cuts g key x l) : ∃ y r, l = (key, y) :: r := by
  induction h with
  | one key x hx => exact ⟨x, [], rfl⟩
  | cut key x k a b h1 h2 h3 h4 h5 ih1 ih2 =>
    obtain ⟨y, r, e⟩ := ih1
    exact ⟨y, r ++ b, by rw [e]; rfl⟩
theorem Cuts.pos {g : Int} {key : Bytes} {x : Nd} {l : List Pt} (h : Cuts g key x l) : 0 < l.length := by
  obtain ⟨y, r, rfl⟩ := h.head
  simp
theorem Cuts.most {g : Int} {key : Bytes} {x : Nd} {l : List Pt} (h : Cuts g key x l) : l.length ≤ max 1 (many x) := by
  induction h with
  | one key x hx => simp; omega
  | cut key x k a b h1 h2 h3 h4 h5 ih1 ih2 =>
    have hk := h3.2.1
    rw [rms_length] at hk
    rw [many_fst (by omega)] at ih1
    rw [many_snd] at ih2
    have := h3.1
    rw [List.length_append]
    omega
/-- Whatever holds of a node, and of both halves of one of which it holds, holds of each piece. -/
theorem Cuts.all {g : Int} {key : Bytes} {x : Nd} {l : List Pt} {P : Nd → Prop} (h : Cuts g key x l) (hP : ∀ y k, P y → 1 ≤ k → k < many y → P (fstN k y) ∧ P (sndN k y)) (hx : P x) : ∀ p ∈ l, P p.2 := by
  induction h with
  | one key x h1 => intro p hp; simp at hp; subst hp; exact hx
  | cut key x k a b h1 h2 h3 h4 h5 ih1 ih2 =>
    have hk := h3.2.1
    rw [rms_length] at hk
    have hh := hP x k hx h3.1 hk
    intro p hp
    rcases List.mem_append.1 hp with hp | hp
    · exact ih1 hh.1 p hp
    · exact ih2 hh.2 p hp
theorem Cuts.fits {g : Int} {key : Bytes} {x : Nd} {l : List Pt} (h : Cuts g key x l) : ∀ p ∈ l, nfit g p.2 = true ∨ many p.2 < 2 := by
  induction h with
  | one key x h1 => intro p hp; simp at hp; subst hp; exact h1
  | cut key x k a b h1 h2 h3 h4 h5 ih1 ih2 =>
    intro p hp
    rcases List.mem_append.1 hp with hp | hp
    · exact ih1 p hp
    · exact ih2 p hp
theorem Cuts.leaf {g : Int} {key : Bytes} {x : Nd} {l : List Pt} (h : Cuts g key x l) : ∀ p ∈ l, p.2.leaf = x.leaf :=
  h.all (P := fun y => y.leaf = x.leaf) (fun y k hy _ _ => by
    unfold fstN sndN
    rw [hy]
    cases x.leaf <;> exact ⟨rfl, rfl⟩) rfl
theorem Cuts.full {g : Int} {key : Bytes} {x : Nd} {l : List Pt} (h : Cuts g key x l) (hx : 1 ≤ many x) : ∀ p ∈ l, 1 ≤ many p.2 :=
  h.all (P := fun y => 1 ≤ many y) (fun y k hy h1 h2 => by rw [many_fst (by omega), many_snd]; omega) hx
theorem Cuts.long {g : Int} {key : Bytes} {x : Nd} {l : List Pt} (h : Cuts g key x l) (hl : 1 < l.length) : 2 ≤ many x := by
  have := h.most
  omega
/-- A node has nothing of the other kind. -/
def Pure (x : Nd) : Prop := if x.leaf = true then x.kds = [] else x.its = []
theorem Pure.fst (k : Nat) (x : Nd) : Pure (fstN k x) := by unfold Pure fstN; cases x.leaf <;> simp
theorem Pure.snd (k : Nat) (x : Nd) : Pure (sndN k x) := by unfold Pure sndN; cases x.leaf <;> simp
theorem Pure.many {x : Nd} (h : Pure x) : Proofs.Ytnjhpjpeeehagaa.many x = x.its.length + x.kds.length := by
  unfold Pure at h
  unfold Proofs.Ytnjhpjpeeehagaa.many
  cases hx : x.leaf <;> simp [hx] at h ⊢ <;> simp [h]
theorem Cuts.pures {g : Int} {key : Bytes} {x : Nd} {l : List Pt} (h : Cuts g key x l) (hx : Pure x) : ∀ p ∈ l, Pure p.2 :=
  h.all (P := Pure) (fun y k _ _ _ => ⟨Pure.fst k y, Pure.snd k y⟩) hx
def manys (l : List Pt) : Nat := (l.map fun p => many p.2).sum
theorem Cuts.manys {g : Int} {key : Bytes} {x : Nd} {l : List Pt} (h : Cuts g key x l) : Proofs.Ytnjhpjpeeehagaa.manys l = many x := by
  induction h with
  | one key x hx => simp [Proofs.Ytnjhpjpeeehagaa.manys]
  | cut key x k a b h1 h2 h3 h4 h5 ih1 ih2 =>
    have hk := h3.2.1
    rw [rms_length] at hk
    rw [many_fst (by omega)] at ih1
    rw [many_snd] at ih2
    simp only [Proofs.Ytnjhpjpeeehagaa.manys, List.map_append, List.sum_append] at ih1 ih2 ⊢
    omega
theorem Cuts.two {g : Int} {key : Bytes} {x : Nd} {p q : Pt} (h : Cuts g key x [p, q]) : ∃ k, IsMid (rms g x) k ∧ p = (key, fstN k x) ∧ q = (keyN k x, sndN k x) := by
  generalize hl : [p, q] = l at h
  cases h with
  | one _ _ hx => simp at hl
  | cut _ _ k a b h1 h2 h3 h4 h5 =>
    have ha := h4.pos
    have hb := h5.pos
    have hab : a.length + b.length = 2 := by rw [← List.length_append, ← hl]; rfl
    have one : ∀ {kk : Bytes} {y : Nd} {c : List Pt}, Cuts g kk y c → c.length = 1 → c = [(kk, y)] := by
      intro kk y c hc h1
      cases hc with
      | one _ _ _ => rfl
      | cut _ _ k' a' b' _ _ _ q4 q5 =>
        have := q4.pos
        have := q5.pos
        rw [List.length_append] at h1
        omega
    have ea := one h4 (by omega)
    have eb := one h5 (by omega)
    subst ea eb
    simp only [List.cons_append, List.nil_append, List.cons.injEq, and_true] at hl
    exact ⟨k, h3, hl.1, hl.2⟩

def joinN (a b : Nd) (key : Bytes) : Nd := if a.leaf = true then ⟨true, a.its ++ b.its, []⟩ else ⟨false, [], a.kds ++ headK key b.kds⟩
theorem join_cut {k : Nat} {x : Nd} (hp : Pure x) (hk : k < many x) : joinN (fstN k x) (sndN k x) (keyN k x) = x := by
  obtain ⟨f, il, kl⟩ := x
  unfold Pure at hp
  unfold many at hk
  unfold joinN fstN sndN keyN
  cases f
  · simp at hp hk
    subst hp
    have e : kl.drop k = kl[k] :: kl.drop (k + 1) := List.drop_eq_getElem_cons hk
    have e2 : headK kl[k].1 (headK [] (kl.drop k)) = kl.drop k := by rw [e]; rfl
    simp only [List.getElem?_eq_getElem hk, Option.map_some, Option.getD_some, Bool.false_eq_true, if_false, e2, List.take_append_drop]
  · simp at hp
    subst hp
    simp
theorem headK_append {key : Bytes} {l : List Kd} (h : 0 < l.length) (m : List Kd) : headK key (l ++ m) = headK key l ++ m := by
  cases l with
  | nil => simp at h
  | cons x l => rfl
theorem join_assoc {a b c : Nd} (kb kc : Bytes) (hb : b.leaf = a.leaf) (h1 : 1 ≤ many b) : joinN (joinN a b kb) c kc = joinN a (joinN b c kc) kb := by
  obtain ⟨f, ai, ak⟩ := a
  obtain ⟨g, bi, bk⟩ := b
  simp only at hb
  subst hb
  unfold many at h1
  unfold joinN
  cases g
  · simp at h1
    simp [headK_append (show 0 < bk.length by omega)]
  · simp
theorem join_leaf (a b : Nd) (key : Bytes) : (joinN a b key).leaf = a.leaf := by unfold joinN; cases a.leaf <;> rfl
/-- All pieces joined, behind a node. -/
def joins (a : Nd) (l : List Pt) : Nd := l.foldl (fun a p => joinN a p.2 p.1) a
theorem joins_to {f : Bool} : ∀ {l : List Pt} {a : Nd} {key : Bytes} {y : Nd}, a.leaf = f → y.leaf = f → 1 ≤ many y → (∀ p ∈ l, p.2.leaf = f ∧ 1 ≤ many p.2) → joins a ((key, y) :: l) = joinN a (joins y l) key
  | [], _, _, _, _, _, _, _ => rfl
  | (kp, p) :: l, a, key, y, ha, hy, h1, hl => by
    have hp := hl (kp, p) (by simp)
    have e : joins a ((key, y) :: (kp, p) :: l) = joins (joinN a y key) ((kp, p) :: l) := rfl
    have e2 : joins y ((kp, p) :: l) = joinN y (joins p l) kp := joins_to hy hp.1 hp.2 fun q hq => hl q (List.mem_cons_of_mem _ hq)
    rw [e, joins_to (by rw [join_leaf]; exact ha) hp.1 hp.2 (fun q hq => hl q (List.mem_cons_of_mem _ hq)), e2, join_assoc key kp (by rw [ha, hy]) h1]
theorem Cuts.joined {g : Int} {key : Bytes} {x : Nd} {l : List Pt} (h : Cuts g key x l) : Pure x → ∀ y r, l = (key, y) :: r → joins y r = x := by
  induction h with
  | one key x hx =>
    intro _ y r e
    simp at e
    obtain ⟨rfl, rfl⟩ := e
    rfl
  | cut key x k a b h1 h2 h3 h4 h5 ih1 ih2 =>
    intro hp y r e
    have hk := h3.2.1
    rw [rms_length] at hk
    obtain ⟨ya, ra, rfl⟩ := h4.head
    obtain ⟨yb, rb, rfl⟩ := h5.head
    have ja := ih1 (Pure.fst k x) ya ra rfl
    have jb := ih2 (Pure.snd k x) yb rb rfl
    simp only [List.cons_append, List.cons.injEq, Prod.mk.injEq, true_and] at e
    obtain ⟨rfl, rfl⟩ := e
    have e1 : joins ya (ra ++ (keyN k x, yb) :: rb) = joins (joins ya ra) ((keyN k x, yb) :: rb) := by unfold joins; rw [List.foldl_append]
    have hlf : ∀ p ∈ (keyN k x, yb) :: rb, p.2.leaf = x.leaf ∧ 1 ≤ many p.2 := fun p hq => ⟨by rw [h5.leaf p hq]; unfold sndN; cases x.leaf <;> rfl, h5.full (by rw [many_snd]; omega) p hq⟩
    have hy := hlf (keyN k x, yb) (by simp)
    rw [e1, ja, joins_to (f := x.leaf) (a := fstN k x) (y := yb) (by unfold fstN; cases x.leaf <;> rfl) hy.1 hy.2 (fun q hq => hlf q (List.mem_cons_of_mem _ hq)), jb]
    exact join_cut hp hk

/-- A node of which nothing is great. -/
def Small (x : Nd) : Prop := x.its.length ≤ 1000 ∧ x.kds.length ≤ 1000 ∧ (∀ i ∈ x.its, i.1.length ≤ 1000 ∧ i.2.1.length ≤ 10000) ∧ (∀ i ∈ x.kds, i.1.length ≤ 1000)
theorem headK_mem {key : Bytes} {b : Nat} (hk : key.length ≤ b) : ∀ {l : List Kd}, (∀ i ∈ l, i.1.length ≤ b) → ∀ i ∈ headK key l, i.1.length ≤ b
  | [], _ => by simp [headK]
  | x :: l, h => by
    intro i hi
    simp [headK] at hi
    rcases hi with rfl | hi
    · exact hk
    · exact h i (List.mem_cons_of_mem _ hi)
theorem Small.halves {x : Nd} (h : Small x) (k : Nat) : Small (fstN k x) ∧ Small (sndN k x) := by
  obtain ⟨h1, h2, h3, h4⟩ := h
  unfold fstN sndN
  cases x.leaf
  · refine ⟨⟨by simp, by simp; omega, by simp, fun i hi => h4 i (List.mem_of_mem_take hi)⟩, ⟨by simp, ?_, by simp, headK_mem (by simp) fun i hi => h4 i (List.mem_of_mem_drop hi)⟩⟩
    simp [headK_length]
    omega
  · exact ⟨⟨by simp; omega, by simp, fun i hi => h3 i (List.mem_of_mem_take hi), by simp⟩, ⟨by simp; omega, by simp, fun i hi => h3 i (List.mem_of_mem_drop hi), by simp⟩⟩
theorem trs (g : Int) : 0 ≤ tr g 4 8 8 ∧ tr g 4 8 8 ≤ 8 := by
  unfold tr
  split
  · omega
  · split
    · omega
    · split <;> omega
theorem irm_range (g : Int) (x : It) (h1 : x.1.length ≤ 1000) (h2 : x.2.1.length ≤ 10000) : 0 ≤ irm g x ∧ irm g x ≤ 20000 := by
  unfold irm room
  have := trs g
  split
  · split <;> omega
  · omega
theorem krm_range (g : Int) (x : Kd) (h1 : x.1.length ≤ 1000) : 0 ≤ krm g x ∧ krm g x ≤ 20000 := by
  unfold krm kid
  have := trs g
  split <;> omega
theorem Small.each {x : Nd} (h : Small x) (g : Int) : Each 20000 (rms g x) := by
  obtain ⟨h1, h2, h3, h4⟩ := h
  unfold rms
  intro a ha
  split at ha
  · simp only [List.mem_map] at ha
    obtain ⟨i, hi, rfl⟩ := ha
    exact irm_range g i (h3 i hi).1 (h3 i hi).2
  · simp only [List.mem_map] at ha
    obtain ⟨i, hi, rfl⟩ := ha
    exact krm_range g i (h4 i hi)
theorem Small.many {x : Nd} (h : Small x) : Proofs.Ytnjhpjpeeehagaa.many x ≤ 1000 := by
  obtain ⟨h1, h2, _⟩ := h
  unfold Proofs.Ytnjhpjpeeehagaa.many
  split <;> omega
theorem Small.rm {x : Nd} (h : Small x) (g : Int) : 0 ≤ nrm g x ∧ nrm g x ≤ 20000000 := by
  have h1 := Each.sum (by omega) (h.each g)
  have h2 := h.many
  rw [← rms_length g x] at h2
  unfold nrm
  omega
end Go.Proofs.Ytnjhpjpeeehagaa
