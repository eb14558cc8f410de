/-
  Encode.
-/
import Derived.Test.YtbgnfocfnjlabaaDoorRgx
import Derived.Test.YtbgnfocfnjlabaaDoorSer
set_option linter.unusedVariables false
namespace Go.Proofs.YtbgnfocfnjlabaaDoor
open Go.RowKit
attribute [local go_sem] run_store_func

/-- Is there a value too long for the leaf, with no place outside? -/
def anyU (l : List It) : Bool := l.any fun i => unp i.2.1.length i.2.2.2
/-- A page's bytes, without its sum. -/
def rawB (g : Int) (x : Nd) : Bytes := padB 256 (headB (if x.leaf = true then 76 else 66) g.toNat (if x.leaf = true then x.its.length else x.kds.length) 0 ++ (x.its.flatMap (serI g) ++ x.kds.flatMap (serK g)))
/-- The page of a node. -/
def pageB (g : Int) (x : Nd) : Bytes := if g = 1 then rawB g x else sealB (rawB g x) 4
def encC (g : Int) (x : Nd) : Cur := x.kds.foldl (kdC g) (x.its.foldl (itD g) (stC (if x.leaf = true then 76 else 66) g (if x.leaf = true then (x.its.length : Int) else (x.kds.length : Int)) 0))
theorem RightN.its {g : Int} {x : Nd} (h : RightN g x) : ∀ i ∈ x.its, okay g i.1.length i.2.1.length i.2.2.1 i.2.2.2 = true := fun i hi => by
  obtain ⟨_, hp, he, _⟩ := h
  unfold PureR at hp
  unfold EachR at he
  by_cases hf : x.leaf = true
  · rw [if_pos hf] at he
    obtain ⟨k, hk, e⟩ := List.mem_iff_getElem.1 hi
    exact he k i (by rw [← e]; exact List.getElem?_eq_getElem hk)
  · rw [if_neg hf] at hp
    rw [hp.1] at hi
    cases hi
theorem RightN.kds {g : Int} {x : Nd} (h : RightN g x) : ∀ i ∈ x.kds, 0 ≤ i.2 ∧ i.2 < 16384 ∧ i.1.length < 256 := fun i hi => by
  obtain ⟨hg, hp, he, _⟩ := h
  unfold PureR at hp
  unfold EachR at he
  by_cases hf : x.leaf = true
  · rw [if_pos hf] at hp
    rw [hp] at hi
    cases hi
  · rw [if_neg hf] at he
    obtain ⟨k, hk, e⟩ := List.mem_iff_getElem.1 hi
    have := he k i (by rw [← e]; exact List.getElem?_eq_getElem hk)
    unfold KidR at this
    have t1 : tr g 16 20 24 ≤ 24 := by rcases (gen_iff g).1 hg with rfl | rfl | rfl <;> decide
    refine ⟨by omega, by omega, ?_⟩
    rcases Nat.eq_zero_or_pos k with h0 | h0
    · have := this.2.1 h0
      omega
    · have := (this.2.2 (by omega)).2
      omega
theorem RightN.nat {g : Int} {x : Nd} (h : RightN g x) : ∃ k : Nat, g = (k : Int) ∧ (k = 1 ∨ k = 2 ∨ k = 3) := by
  rcases (gen_iff g).1 h.1 with rfl | rfl | rfl
  · exact ⟨1, rfl, by decide⟩
  · exact ⟨2, rfl, by decide⟩
  · exact ⟨3, rfl, by decide⟩
/-- The entries have room behind the head. -/
theorem RightN.room {g : Int} {x : Nd} (h : RightN g x) : ((x.its.flatMap (serI g) ++ x.kds.flatMap (serK g)).length : Int) ≤ tr g 248 240 240 := by
  have hi := h.its
  obtain ⟨hg, hp, _, _, hf⟩ := h
  unfold nfit nrm rms at hf
  unfold PureR at hp
  rw [decide_eq_true_eq] at hf
  rw [List.length_append]
  by_cases hl : x.leaf = true
  · rw [if_pos hl] at hf hp
    rw [hp, List.flatMap_nil, List.length_nil, Nat.add_zero, sum_its hi]
    exact hf
  · rw [if_neg hl] at hf hp
    rw [hp.1, List.flatMap_nil, List.length_nil, Nat.zero_add, sum_kds hg]
    exact hf
theorem RightN.enc {g : Int} {x : Nd} (h : RightN g x) (h1 : x.its.length ≤ 1000) (h2 : x.kds.length ≤ 1000) : encC g x = ⟨rawB g x, (headB (if x.leaf = true then 76 else 66) g.toNat (if x.leaf = true then x.its.length else x.kds.length) 0 ++ (x.its.flatMap (serI g) ++ x.kds.flatMap (serK g))).length, false⟩ := by
  have hi := h.its
  have hk := h.kds
  have hr := h.room
  have hgen := h.1
  obtain ⟨k, rfl, hk3⟩ := h.nat
  rw [List.length_append] at hr
  have hh := headB_length (k := if x.leaf = true then 76 else 66) (n := if x.leaf = true then x.its.length else x.kds.length) (x := 0) (g := k) hgen
  have hh16 : (headB (if x.leaf = true then 76 else 66) k (if x.leaf = true then x.its.length else x.kds.length) 0).length + (tr (k : Int) 248 240 240).toNat = 256 := by
    rw [hh]
    rcases hk3 with rfl | rfl | rfl <;> rfl
  have hst : stC (if x.leaf = true then 76 else 66) (k : Int) (if x.leaf = true then (x.its.length : Int) else (x.kds.length : Int)) 0 = fill 256 (headB (if x.leaf = true then 76 else 66) k (if x.leaf = true then x.its.length else x.kds.length) 0) := by
    have hz : fits ((0 : Nat) : Int) (tr (k : Int) 4 8 8) = true := by rcases hk3 with rfl | rfl | rfl <;> rfl
    cases x.leaf
    · exact st_fill (k := 66) (n := x.kds.length) (x := 0) hgen (by decide) (by omega) hz
    · exact st_fill (k := 76) (n := x.its.length) (x := 0) hgen (by decide) (by omega) hz
  unfold encC
  rw [hst, its_fill hi (by omega), kds_fill hgen hk (by rw [List.length_append]; omega)]
  unfold fill rawB
  rw [Int.toNat_natCast, List.append_assoc]
theorem RightN.fin {g : Int} {x : Nd} (h : RightN g x) (h1 : x.its.length ≤ 1000) (h2 : x.kds.length ≤ 1000) : finB g (encC g x) = pageB g x ∧ finE (encC g x) = 0 := by
  rw [h.enc h1 h2]
  exact ⟨rfl, rfl⟩
theorem encC_len (g : Int) (x : Nd) : (encC g x).b.length = 256 := by
  have h1 : ∀ (l : List It) (c : Cur), c.b.length = 256 → (l.foldl (itD g) c).b.length = 256 := by
    intro l
    induction l with
    | nil => exact fun c h => h
    | cons i l ih =>
      intro c h
      refine ih _ ?_
      unfold itD itC
      split
      · rw [Cur.put_len, Cur.write_len, Cur.put_len, Cur.put_len, Cur.put_len, h]
      · rw [Cur.write_len, Cur.write_len, Cur.put_len, Cur.put_len, Cur.put_len, h]
  have h2 : ∀ (l : List Kd) (c : Cur), c.b.length = 256 → (l.foldl (kdC g) c).b.length = 256 := by
    intro l
    induction l with
    | nil => exact fun c h => h
    | cons i l ih =>
      intro c h
      refine ih _ ?_
      unfold kdC
      rw [Cur.put_len, Cur.write_len, Cur.put_len, h]
  unfold encC
  exact h2 _ _ (h1 _ _ (stC_len _ _ _ _))
theorem fold_take {α β : Type} {f : β → α → β} {l : List α} {c : β} {k : Nat} {y : α} (h : l[k]? = some y) : (l.take (k + 1)).foldl f c = f ((l.take k).foldl f c) y := by
  rw [List.take_add_one, h, List.foldl_append]
  rfl
/-- What Encode answers: the page, if the node may be, and has its values placed; else the error. -/
def GaveE (w : World) (g : Int) (x : Nd) (e : Ending) (w' : World) : Prop := ∃ b : Bool, (b = true ↔ RightN g x ∧ anyU x.its = false) ∧ GaveBE w (if b = true then pageB g x else []) (if b = true then 0 else 73) e w'
theorem okay_64 {g : Int} {n m : Nat} {s r : Int} (h : okay g n m s r = true) : I64 s ∧ I64 r := by
  unfold okay putOk long at h
  simp only [Bool.and_eq_true, decide_eq_true_eq] at h
  obtain ⟨hg, _, h1, h2⟩ := h
  have t2 : tr g 400 800 1600 ≤ 1600 := by rcases (gen_iff g).1 hg with rfl | rfl | rfl <;> decide
  unfold I64
  rcases h2 with ⟨e1, e2⟩ | ⟨e0, e1, e2, e3, _⟩
  · rw [e1, e2]
    omega
  · rw [if_neg e0] at h1
    omega
theorem Src.nofoot {w : World} {A : Option Addr} {n c p q : Nat} {xs : Bytes} (h : Src w (.slice A n c) xs) (hp : w.heap.size ≤ p) (hq : w.heap.size ≤ q) : ∀ ad, A = some ad → 0 < n → ¬ Foot p q ad.block := fun ad e hn hf => by
  obtain ⟨A', c', e2, ht, _⟩ := h
  simp only [Value.slice.injEq] at e2
  obtain ⟨rfl, rfl, rfl⟩ := e2
  subst e
  have := ht.block hn
  rcases hf with hf | hf <;> omega
end Go.Proofs.YtbgnfocfnjlabaaDoor
