/-
  A region in a round of a loop over a function, outside all fences: walked as everywhere.
-/
import Derived.Test.YtbgnfocfnjlabaaDoorGb
import Derived.RangeFuncBox
import Derived.RangeFuncCalls
import Derived.RangeFuncLeaves
import Derived.Shelf.Abstract
import Derived.OwnWalkIn
import Derived.TacticsInMore
import Derived.OrdersIn
import Derived.Maps.AppendAt
import Derived.LoopNIn
import Derived.LoopIn
set_option linter.unusedVariables false
namespace Go.Proofs.YtbgnfocfnjlabaaDoor
open Go.RowKit

section
variable {P : Program} {Q : Exit → Act → World → Prop} {md : Region.Mode} {ops : Array Oper} {l n : Nat}
theorem rows_round {row : String} {args : Array Value} {w : World} {R : Value → World → Prop} (h : Rows P row args w R) : RowsIn (Fence.wide.inRound l) n P row args w R := fun c cs _ =>
  let ⟨v, w', r, s⟩ := h c cs
  ⟨v, w', r, stepsIn_wide.2 s⟩
theorem upon_round {o : Oper} {a : Act} {next : Act → World → Prop} {r : Result Next} (h : o.upon P a next Q r) : o.uponIn (Fence.wide.inRound l) n P a next Q r := by
  cases r with
  | ok x w' =>
    cases x with
    | value v => exact h
    | skip => exact h
    | defer d => exact h
    | enter f args => exact ⟨fun e => (by cases e), CallsIn.inRound l (callsIn_wide.2 h)⟩
    | row row args => exact ⟨fun e => (by cases e), rows_round h⟩
    | _ => exact h.elim
  | halt x w' =>
    cases x with
    | panic v => exact h
    | _ => exact h.elim
def noDefer (ops : Array Oper) : Bool := ops.all fun o => match o.op with
  | .defer _ => false
  | _ => true
theorem noDefer_at (h : noDefer ops = true) {i : Nat} {o : Oper} (hi : ops[i]? = some o) (c : _) : o.op ≠ .defer c := fun e => by
  have := Array.all_eq_true.1 h i (Array.getElem?_eq_some_iff.1 hi).1
  rw [(Array.getElem?_eq_some_iff.1 hi).2, e] at this
  cases this
theorem wpOp_round (hO : ¬ LetsOut Q) (hd : noDefer ops = true) {i : Nat} {K : Act → World → Prop} {a : Act} {w : World} (h : wpOp P ops Q i K a w) : wpOpIn (Fence.wide.inRound l) n P ops Q i K a w := by
  unfold wpOpIn
  unfold wpOp at h
  cases ho : ops[i]? with
  | none => rw [ho] at h; exact h
  | some o =>
    rw [ho] at h
    simp only at h ⊢
    split
    · rename_i hw
      rw [if_pos hw] at h
      refine ⟨fun _ _ => trivial, ?_⟩
      rw [Fence.inRound_round, Oper.semAt_some l _ o (noDefer_at hd ho)]
      exact upon_round (h.resolve_right fun h => hO h.2)
    · rename_i hw
      rw [if_neg hw] at h
      exact ⟨fun _ _ => trivial, h⟩
theorem wpAny_round (hO : ¬ LetsOut Q) (hd : noDefer ops = true) : ∀ (fuel : Nat) (listed : Array Bool) (a : Act) (w : World), wpAny P md ops Q fuel listed a w → wpAnyIn (Fence.wide.inRound l) n P md ops Q fuel listed a w
  | 0, _, _, _, h => h
  | fuel + 1, _, _, _, h => ⟨h.1, fun i hi => wpOp_round hO hd (wpOp_mono (fun a' w' h' => wpAny_round hO hd fuel _ a' w' h') (h.2 i hi))⟩
theorem wpIn_round_list {L : List Oper} {B : List Bool} {S : World → Prop} {id : Nat} {a : Act} {w : World} (hO : ¬ LetsOut Q) (hm : P.follows .mixedOrders = true) (hd : noDefer L.toArray = true) (hB : List.replicate L.length false = B) (hs : Region.noSelect L.toArray = true) (hS : S w.drew)
    (h : Hid (Region.noSelect L.toArray = true) → S w.drew → wpAnyL P L Q S L.length B a w.drew) : (Code.region id L.toArray true).wpIn (Fence.wide.inRound l) n P Q a w := by
  subst hB
  refine wpIn_region_any hm (wpAny_round hO hd _ _ _ _ (wpAny_of_held (S := S) _ _ _ _ ?_))
  have := h (Lib.hid hs) hS
  unfold wpAnyL at this
  rw [List.size_toArray, ← List.toArray_replicate]
  exact this
theorem wpIn_region_norm {F : Fence} {id : Nat} {L0 L : List Oper} {a : Act} {w : World} (hL : L0 = L) (h : (Code.region id L.toArray true).wpIn F n P Q a w) : (Code.region id L0.toArray true).wpIn F n P Q a w := hL ▸ h
end
end Go.Proofs.YtbgnfocfnjlabaaDoor
