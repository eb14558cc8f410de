/-
  Rows of the document's Made.
-/
import Derived.Test.YtnjhpjpeeehagaaTal
import Derived.Test.YtnjhpjpeeehagaaTrp
set_option linter.unusedVariables false
namespace Go.Proofs.Ytnjhpjpeeehagaa
open Go.RowKit

/-- The leaves: the items cut in so many's; numbers from 2 on. -/
def chunkP (many : Nat) (its : List It) (i : Nat) : List It := (its.drop (i * many)).take many
def headKey (l : List It) : Bytes := (l.head?.map (·.1)).getD []
def leafsP (many : Nat) (its : List It) (j : Nat) : List Nm := (List.range j).map fun (i : Nat) => (2 + (i : Int), ⟨true, chunkP many its i, []⟩)
def leafKidsP (many : Nat) (its : List It) (j : Nat) : List Kd := (List.range j).map fun (i : Nat) => (headKey (chunkP many its i), 2 + (i : Int))
theorem leafs_succ (many : Nat) (its : List It) (j : Nat) : leafsP many its (j + 1) = leafsP many its j ++ [(2 + (j : Int), ⟨true, chunkP many its j, []⟩)] := by
  unfold leafsP
  rw [List.range_succ, List.map_append]
  rfl
theorem leafKids_succ (many : Nat) (its : List It) (j : Nat) : leafKidsP many its (j + 1) = leafKidsP many its j ++ [(headKey (chunkP many its j), 2 + (j : Int))] := by
  unfold leafKidsP
  rw [List.range_succ, List.map_append]
  rfl

/-- One of the two rows that grow. -/
def Fq (vl vk : Value) (j : Nat) : Prop := vl.ownBlock = some j ∨ vk.ownBlock = some j
/-- Two rows of the call's own: nodes, and kids; what is in them stays whatever is done to these rows, and to what is new. -/
structure MdI (w wr : World) (vl vk : Value) (ls : List Nm) (ks : List Kd) (CL CK : List Value) : Prop where
  on : Only (w.heap.size ≤ ·) w wr
  rl : wr.ownsRow w.heap.size 65 4 vl ls.length CL
  dl : Den (fun y cs => Stab (Fq vl vk) wr (fun W => nmE.At W y cs)) ls CL
  rk : wr.ownsRow w.heap.size 87 2 vk ks.length CK
  dk : Den (fun y cs => Stab (Fq vl vk) wr (fun W => kdE.At W y cs)) ks CK
theorem MdI.start (w : World) : MdI w w (.slice none 0 0) (.slice none 0 0) [] [] [] [] := ⟨Only.refl _ _, World.ownsRow_nil _ _ _ _, rfl, World.ownsRow_nil _ _ _ _, rfl⟩
theorem MdI.later {w wr W : World} {vl vk : Value} {ls : List Nm} {ks : List Kd} {CL CK : List Value} (h : MdI w wr vl vk ls ks CL CK) (ho : Only (wr.heap.size ≤ ·) wr W) : MdI w W vl vk ls ks CL CK :=
  ⟨on_new h.on ho, own_later h.rl ho, h.dl.mono fun _ _ hx => hx.later ho, own_later h.rk ho, h.dk.mono fun _ _ hx => hx.later ho⟩
/-- A round: both rows have grown by one; else only new blocks were written. -/
theorem MdI.round {w wr W : World} {vl vk vl' vk' : Value} {ls : List Nm} {ks : List Kd} {CL CK c1 c2 : List Value} {x : Nm} {y : Kd} (h : MdI w wr vl vk ls ks CL CK)
    (ho : Only (fun j => Fq vl vk j ∨ wr.heap.size ≤ j) wr W) (hl : W.ownsRow w.heap.size 65 4 vl' (ls.length + 1) (CL ++ c1)) (hk : W.ownsRow w.heap.size 87 2 vk' (ks.length + 1) (CK ++ c2))
    (h1 : vl'.ownBlock = vl.ownBlock ∨ ∃ g, vl'.ownBlock = some g ∧ wr.heap.size ≤ g) (h2 : vk'.ownBlock = vk.ownBlock ∨ ∃ g, vk'.ownBlock = some g ∧ wr.heap.size ≤ g)
    (hx : Stab (Fq vl' vk') W (fun W => nmE.At W x c1)) (hy : Stab (Fq vl' vk') W (fun W => kdE.At W y c2)) : MdI w W vl' vk' (ls ++ [x]) (ks ++ [y]) (CL ++ c1) (CK ++ c2) := by
  have hF : ∀ j, Fq vl' vk' j → Fq vl vk j ∨ wr.heap.size ≤ j := by
    rintro j (hj | hj)
    · rcases h1 with e | ⟨g, e, hg⟩
      · exact .inl (.inl (e ▸ hj))
      · rw [e] at hj
        cases hj
        exact .inr hg
    · rcases h2 with e | ⟨g, e, hg⟩
      · exact .inl (.inr (e ▸ hj))
      · rw [e] at hj
        cases hj
        exact .inr hg
  have hon : Only (w.heap.size ≤ ·) w W := h.on.trans (ho.mono fun j hj => by
    rcases hj with (hj | hj) | hj
    · exact (World.ownsRow.lt h.rl j hj).1
    · exact (World.ownsRow.lt h.rk j hj).1
    · exact Nat.le_trans h.on.size hj)
  exact ⟨hon, by rw [List.length_append]; exact hl, Den.append (h.dl.mono fun _ _ hz => hz.step ho hF) (Den.single hx), by rw [List.length_append]; exact hk, Den.append (h.dk.mono fun _ _ hz => hz.step ho hF) (Den.single hy)⟩
/-- The rows, as they can be read. -/
theorem MdI.nms {w wr : World} {vl vk : Value} {ls : List Nm} {ks : List Kd} {CL CK : List Value} (h : MdI w wr vl vk ls ks CL CK) : Nms wr vl ls := rw_of_own h.rl rfl (h.dl.mono fun _ _ hx => hx.now)
theorem MdI.kds {w wr : World} {vl vk : Value} {ls : List Nm} {ks : List Kd} {CL CK : List Value} (h : MdI w wr vl vk ls ks CL CK) : Kds wr vk ks := rw_of_own h.rk rfl (h.dk.mono fun _ _ hx => hx.now)
/-- A leaf whose items' row is the call's own, and no row that grows. -/
theorem leaf_stab {w W : World} {F : Nat → Prop} {v : Value} {q : Nat} {C : List Value} {l : List It} {r : Int} (ho : Only (w.heap.size ≤ ·) w W) {B : Nat} (hr : W.ownsRow B 44 4 v q C) (hq : q = l.length) (hd : Den (itE.At w) l C) (hF : ∀ j, F j → w.heap.size ≤ j ∧ v.ownBlock ≠ some j) :
    Stab F W (fun W' => nmE.At W' (r, ⟨true, l, []⟩) [.int .i64 r, .bool true, v, .slice none 0 0]) := fun W' hW => by
  have hO : Only (w.heap.size ≤ ·) w W' := ho.trans (hW.mono fun j hj => hj.elim (fun h => (hF j h).1) fun h => Nat.le_trans ho.size h)
  refine ⟨true, v, .slice none 0 0, rfl, rfl, ?_, Rw.nil_ _⟩
  exact rw_of_own (own_on hr hW fun j hj h => h.elim (fun h => (hF j h).2 hj) fun h => by have := (World.ownsRow.lt hr j hj).2; omega) hq (hd.mono fun _ _ hx => itE.later hx hO)
/-- A kid whose key was there before. -/
theorem kid_stab {w W : World} {F : Nat → Prop} {P : Option Addr} {p : Nat} {k : Bytes} {r : Int} (ho : Only (w.heap.size ≤ ·) w W) (hk : Src w (.slice P k.length p) k) (hF : ∀ j, F j → w.heap.size ≤ j) :
    Stab F W (fun W' => kdE.At W' (k, r) [.slice P k.length p, .int .i64 r]) := fun W' hW =>
  ⟨P, p, rfl, hk.later (ho.trans (hW.mono fun j hj => hj.elim (fun h => hF j h) fun h => Nat.le_trans ho.size h))⟩
/-- Where a branch of so many kids ends. -/
def cutTo (fan n a : Nat) : Nat := if n ≤ a + fan + 1 then n else a + fan
def bareK : List Kd → List Kd
  | [] => []
  | k :: r => ([], k.2) :: r
def groupP (fan : Nat) (ks : List Kd) (a : Nat) : List Kd := (ks.drop a).take (cutTo fan ks.length a - a)
def headKd (l : List Kd) : Bytes := (l.head?.map (·.1)).getD []
/-- A level above kids, from a number on: so far, with these nodes and these kids of its own. -/
inductive Lvl (fan : Nat) (ks : List Kd) (nx : Int) : Nat → List Nm → List Kd → Prop
  | start : Lvl fan ks nx 0 [] []
  | step {a : Nat} {ns : List Nm} {ab : List Kd} : Lvl fan ks nx a ns ab → a < ks.length → Lvl fan ks nx (cutTo fan ks.length a) (ns ++ [(nx + (ns.length : Int), ⟨false, [], bareK (groupP fan ks a)⟩)]) (ab ++ [(headKd (groupP fan ks a), nx + (ns.length : Int))])
/-- Levels above leaves. -/
inductive Lvs (fan : Nat) (ls0 : List Nm) (ks0 : List Kd) : List Nm → List Kd → Prop
  | start : Lvs fan ls0 ks0 ls0 ks0
  | step {ls ns : List Nm} {ks ab : List Kd} : Lvs fan ls0 ks0 ls ks → 1 < ks.length → Lvl fan ks (2 + (ls.length : Int)) ks.length ns ab → Lvs fan ls0 ks0 (ls ++ ns) ab
/-- What Made tells: so many leaves, levels above them, one kid at the top. -/
def IsMade (its : List It) (many fan : Nat) (ls : List Nm) (root : Int) : Prop := ∃ (j : Nat) (k : Kd), 1 ≤ j ∧ its.length ≤ j * many ∧ (j ≤ 1 ∨ (j - 1) * many < its.length) ∧ Lvs fan (leafsP many its j) (leafKidsP many its j) ls [k] ∧ root = k.2
theorem group_den {P : Kd → List Value → Prop} {fan a : Nat} {ks : List Kd} {CK : List Value} (hz : ∀ x cs, P x cs → cs.length = 2) (h : Den P ks CK) : Den P (groupP fan ks a) ((CK.drop (a * 2)).take ((cutTo fan ks.length a - a) * 2)) := Den.take hz _ (Den.drop hz a h)
/-- The first one of a group. -/
theorem group_head {F : Nat → Prop} {w : World} {l : List Kd} {C : List Value} (hl : 0 < l.length) (h : Den (fun y cs => Stab F w (fun W => kdE.At W y cs)) l C) :
    ∃ (key : Bytes) (ref : Int) (r : List Kd) (P : Option Addr) (p : Nat) (D : List Value), l = (key, ref) :: r ∧ C = [.slice P key.length p, .int .i64 ref] ++ D ∧ Stab F w (fun W => Src W (.slice P key.length p) key) ∧ Den (fun y cs => Stab F w (fun W => kdE.At W y cs)) r D := by
  cases l with
  | nil => simp at hl
  | cons y r =>
    obtain ⟨cs, D, rfl, h1, h2⟩ := h
    obtain ⟨P, p, e, _⟩ := h1.now
    subst e
    refine ⟨y.1, y.2, r, P, p, D, rfl, rfl, fun W hW => ?_, h2⟩
    obtain ⟨P', p', e', hs⟩ := h1 W hW
    simp only [List.cons.injEq, Value.slice.injEq, and_true, true_and] at e'
    obtain ⟨rfl, rfl⟩ := e'
    exact hs
theorem cutTo_gt {fan n a : Nat} (hf : 1 ≤ fan) (h : a < n) : a < cutTo fan n a ∧ cutTo fan n a ≤ n := by
  unfold cutTo
  split <;> omega
theorem Lvl.le {fan : Nat} {ks : List Kd} {nx : Int} {a : Nat} {ns : List Nm} {ab : List Kd} (hf : 1 ≤ fan) (h : Lvl fan ks nx a ns ab) : a ≤ ks.length ∧ ns.length = ab.length ∧ ab.length ≤ a := by
  induction h with
  | start => simp
  | step h1 h2 ih =>
    have := cutTo_gt hf h2
    simp only [List.length_append, List.length_singleton]
    omega
end Go.Proofs.Ytnjhpjpeeehagaa
