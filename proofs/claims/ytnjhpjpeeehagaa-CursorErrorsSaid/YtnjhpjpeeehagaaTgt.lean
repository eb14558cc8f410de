/-
  Get.
-/
import Derived.Test.YtnjhpjpeeehagaaTpt
set_option linter.unusedVariables false
namespace Go.Proofs.Ytnjhpjpeeehagaa
open Go.RowKit

theorem down_last {l : List Nm} {ch : Nd → Nat} {root : Int} (hs : ∀ x, x.leaf = false → x.kds ≠ [] → ch x < x.kds.length) : ∀ (k : Nat) (r : Int), Vis l root r → (downP l ch k r).1 = 0 → ∃ s : Sp, (downP l ch k r).2.getLast? = some s ∧ s.2.1.leaf = true ∧ ∃ ref, Vis l root ref ∧ nodeP l ref = some s.2.1
  | 0, r, _, h => by simp [downP] at h
  | k + 1, r, hv, h => by
    cases hno : nodeP l r with
    | none =>
      rw [down_none hno] at h
      simp at h
    | some x =>
      by_cases hb : x.leaf = false ∧ x.kds = []
      · rw [down_bare hno hb.1 hb.2] at h
        simp at h
      · cases hl : x.leaf with
        | true =>
          rw [down_leaf hno hl]
          exact ⟨(r, x, (ch x : Int)), rfl, hl, r, hv, hno⟩
        | false =>
          have hk : x.kds ≠ [] := fun e => hb ⟨hl, e⟩
          have hlt := hs x hl hk
          have hy : x.kds[ch x]? = some x.kds[ch x] := List.getElem?_eq_getElem hlt
          have hr : kidRef x (ch x) = x.kds[ch x].2 := by unfold kidRef; rw [hy]; rfl
          have hv2 : Vis l root (kidRef x (ch x)) := by rw [hr]; exact Vis.kid hv hno hl (List.getElem_mem hlt)
          rw [downP, hno] at h ⊢
          simp only at h ⊢
          rw [if_neg hb, if_neg (fun e => by rw [hl] at e; cases e)] at h ⊢
          by_cases h0 : (downP l ch k (kidRef x (ch x))).1 = 0
          · rw [if_pos h0]
            obtain ⟨s, h1, h2⟩ := down_last hs k _ hv2 h0
            refine ⟨s, ?_, h2⟩
            show ((r, x, (ch x : Int)) :: (downP l ch k (kidRef x (ch x))).2).getLast? = some s
            rw [List.getLast?_cons, h1]
            rfl
          · rw [if_neg h0] at h
            exact absurd h h0
/-- What Get finds. -/
def getP (l : List Nm) (key : Bytes) (root : Int) : Int × Option It :=
  if (downP l (chP key) 12 root).1 = 0 then (0, (downP l (chP key) 12 root).2.getLast?.bind fun s => if hasP s.2.1.its key = true then s.2.1.its[findP s.2.1.its key]? else none) else ((downP l (chP key) 12 root).1, none)
/-- The four parts of an item's value. -/
def ItV (w : World) (y : It) (v u : Value) (s r : Int) : Prop := Src w v y.1 ∧ Src w u y.2.1 ∧ s = y.2.2.1 ∧ r = y.2.2.2
theorem ItV.later {w w' : World} {y : It} {v u : Value} {s r : Int} (h : ItV w y v u s r) (ho : Only (w.heap.size ≤ ·) w w') : ItV w' y v u s r := ⟨h.1.later ho, h.2.1.later ho, h.2.2⟩
def GetSays (w : World) (g : Int × Option It) (e : Ending) (w' : World) : Prop :=
  (∃ P t p Q m q s r b er, e = .returned (.tuple #[.agg #[.slice P t p, .slice Q m q, .int .i64 s, .int .i64 r], .bool b, .int .i64 er]) ∧ er = g.1 ∧ b = g.2.isSome ∧ ItV w' (g.2.getD ([], [], 0, 0)) (.slice P t p) (.slice Q m q) s r) ∧ Only (w.heap.size ≤ ·) w w'
theorem results_cell3 {fn : Func} {P : Program} {p q r : Tmp} {ty : TypeId} {tmps : Array Value} {w : World} {a : Addr} {v x y : Value} (h : fn.results = #[.cell p ty, .tmp q, .tmp r]) (ha : tmps.getD p undef = .pointer (some a)) (hx : tmps.getD q undef = x) (hy : tmps.getD r undef = y) (hl : (loadVar ty a).run P w = .ok v w) :
    (results fn tmps).run P w = .ok (.tuple #[v, x, y]) w := by
  rw [Array.getD_eq_getD_getElem?] at ha hx hy
  simp only [results, h]
  simp [ha, hx, hy, asAddr, hl]
theorem load_item {w : World} {g : Nat} {P Q : Option Addr} {t p m q : Nat} {s r : Int} (h : Blk w g 39 [.slice P t p, .slice Q m q, .int .i64 s, .int .i64 r]) : (loadVar 39 ⟨g, 0, none⟩).run Try.prog w = .ok (.agg #[.slice P t p, .slice Q m q, .int .i64 s, .int .i64 r]) w := by
  obtain ⟨c0, c1, c2, c3⟩ := h.four
  simp [go_sem, c0, c1, c2, c3]
theorem ItV.none_ (w : World) : ItV w ([], [], 0, 0) (.slice none 0 0) (.slice none 0 0) 0 0 := ⟨(New.nil_ w 0).src, (New.nil_ w 0).src, rfl, rfl⟩
theorem src_item {w W : World} {g : Nat} {t : TypeId} {A B : Option Addr} {n c m d : Nat} {s r : Int} {v : Value} {xs : Bytes} (hb : Blk w g t [.slice A n c, .slice B m d, .int .i64 s, .int .i64 r]) (h : Src w v xs) (hW : Only (· = g) w W) : Src W v xs := by
  obtain ⟨A, c, h1, ⟨h2, h3⟩, h4⟩ := h
  refine ⟨A, c, h1, ⟨h2, fun hn => ?_⟩, h4⟩
  obtain ⟨ad, e, hc⟩ := h3 hn
  refine ⟨ad, e, fun j u hu => (hW.cell (p := ad.add j) ?_).trans (hc j u hu)⟩
  obtain ⟨x, hx⟩ : ∃ x, xs[j]? = some x := ⟨_, List.getElem?_eq_getElem (by have := (List.getElem?_eq_some_iff.1 hu).1; unfold cb at this; simpa using this)⟩
  have hu' : (cb xs)[j]? = some (.int .u8 x.toNat) := by
    unfold cb
    rw [List.getElem?_map, hx]
    rfl
  have hcj := hc j _ hu'
  intro e2
  have hs := spotF hcj
  rw [hs, show (ad.add j).block = g from e2, hb.cell] at hcj
  generalize (ad.add j).off = o at hcj
  match o, hcj with
  | 0, h => cases h
  | 1, h => cases h
  | 2, h => cases h
  | 3, h => cases h
  | o + 4, h => simp at h
theorem ItV.keepT {w W : World} {g : Nat} {t : TypeId} {A B : Option Addr} {n c m d : Nat} {s' r' : Int} {y : It} {v u : Value} {s r : Int} (h : ItV w y v u s r) (hb : Blk w g t [.slice A n c, .slice B m d, .int .i64 s', .int .i64 r']) (hW : Only (· = g) w W) : ItV W y v u s r := ⟨src_item hb h.1 hW, src_item hb h.2.1 hW, h.2.2⟩

end Go.Proofs.Ytnjhpjpeeehagaa
