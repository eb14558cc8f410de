/-
  The document's keys.
-/
import Derived.Test.YtdpdlhfjemehcaaTst
set_option linter.unusedVariables false
namespace Go.Proofs.Ytdpdlhfjemehcaa
open Go.RowKit

def keysOf (x : Nd) : List Bytes := if x.leaf = true then x.its.map (·.1) else x.kds.map (·.1)
def okK (last : Option Bytes) (eq : Bool) (hi : Option Bytes) (k : Bytes) : Prop := (∀ b, last = some b → ¬ (cmp k b < 0 ∨ cmp k b = 0 ∧ eq = false)) ∧ ∀ h, hi = some h → ¬ 0 ≤ cmp k h
/-- The keys rise from a bound on, and end below another one. -/
def KeysP (hi : Option Bytes) : Option Bytes → Bool → List Bytes → Prop
  | _, _, [] => True
  | la, eq, k :: r => okK la eq hi k ∧ KeysP hi (some k) false r
def restK (x : Nd) (k : Nat) : List Bytes := (keysOf x).drop (if x.leaf = false ∧ k = 0 then 1 else k)
def KeysSays (w : World) (P : Prop) (e : Ending) (w' : World) : Prop := (∃ r, e = .returned (.bool r) ∧ (r = true ↔ P)) ∧ Only (w.heap.size ≤ ·) w w'
theorem keys_len (x : Nd) : (keysOf x).length = many x := by
  unfold keysOf many
  split <;> simp
theorem rest_cons {x : Nd} {k : Nat} {y : Bytes} (h : (keysOf x)[k]? = some y) (hk : x.leaf = true ∨ k ≠ 0) : restK x k = y :: restK x (k + 1) := by
  unfold restK
  rw [if_neg (fun e => hk.elim (fun h => by rw [e.1] at h; cases h) (fun h => h e.2)), if_neg (fun e => absurd e.2 (by omega))]
  obtain ⟨h1, h2⟩ := List.getElem?_eq_some_iff.1 h
  rw [List.drop_eq_getElem_cons h1, h2]
theorem rest_skip {x : Nd} (h : x.leaf = false) : restK x 0 = restK x (0 + 1) := by
  unfold restK
  rw [if_pos ⟨h, rfl⟩, if_neg (fun e => absurd e.2 (by omega))]
theorem rest_end {x : Nd} {k : Nat} (h : many x ≤ k) : restK x k = [] := by
  unfold restK
  rw [List.drop_eq_nil_iff, keys_len]
  split
  · rename_i e
    have := e.2
    omega
  · exact h
theorem two_cells {w : World} {g : Nat} {t : TypeId} {a b : Value} (h : Blk w g t [a, b]) : w.cell? ⟨g, 0, none⟩ = some a ∧ w.cell? ⟨g, 1, none⟩ = some b := ⟨by rw [h.cell]; rfl, by rw [h.cell]; rfl⟩
theorem heapLast {w : World} {g : Nat} {t : TypeId} {cs : List Value} (e : g = w.heap.size) : Blk (w.alloc (.cells cs.toArray t)) g t cs := by
  subst e
  exact Blk.new w t cs
set_option maxRecDepth 100000 in
set_option maxHeartbeats 25600000 in
theorem rkeys_c (w : World) (f : Bool) (A B LA H : Option Addr) (n c m d lan lac hn hc : Nat) (x : Nd) (lo hi : Option Bytes) (lb hb : Bool) (hN : Nod w x f (.slice A n c) (.slice B m d)) (hlb : lb = lo.isSome) (hl : Src w (.slice LA lan lac) (lo.getD [])) (hhb : hb = hi.isSome) (hh : Src w (.slice H hn hc) (hi.getD [])) :
    Calls Try.prog 38 #[.agg #[.bool f, .slice A n c, .slice B m d], .agg #[.bool lb, .slice LA lan lac], .agg #[.bool hb, .slice H hn hc]] w (KeysSays w (KeysP hi lo true (restK x 0))) := by
  have HND := Lib.hid hN
  have HHB := Lib.hid hhb
  have HHI0 := Lib.hid hh
  have HLA0 := Lib.hid hl
  have HLS := Lib.hid hlb
  have hca := hN.2.1.cap
  have hcb := hN.2.2.cap
  obtain ⟨b3, hb3⟩ : ∃ z, z = w.heap.size := ⟨_, rfl⟩
  obtain ⟨b5, hb5⟩ : ∃ z, z = w.heap.size + 1 + 1 := ⟨_, rfl⟩
  obtain ⟨b7, hb7⟩ : ∃ z, z = w.heap.size + 1 + 1 + 1 := ⟨_, rfl⟩
  obtain ⟨w4, hw4⟩ : ∃ z, z = (((w.alloc (.cells #[.bool f, .slice A n c, .slice B m d] 29)).alloc (.cells #[.bool lb, .slice LA lan lac] 56)).alloc (.cells #[.bool hb, .slice H hn hc] 56)).alloc (.cells #[.bool lb, .slice LA lan lac] 56) := ⟨_, rfl⟩
  have HB3 : Hid (Blk w4 b3 29 [.bool f, .slice A n c, .slice B m d]) := Lib.hid (by rw [hw4]; exact (((heapLast hb3).alloc _).alloc _).alloc _)
  have HB5 : Hid (Blk w4 b5 56 [.bool hb, .slice H hn hc]) := Lib.hid (by rw [hw4]; exact (heapLast (by rw [hb5]; simp)).alloc _)
  have HB7 : Hid (Blk w4 b7 56 [.bool lb, .slice LA lan lac]) := Lib.hid (by rw [hw4]; exact heapLast (by rw [hb7]; simp))
  have HO4 : Hid (Only (w.heap.size ≤ ·) w w4) := Lib.hid (by rw [hw4]; exact (((((Only.refl _ w).alloc (fun _ h => h) _).alloc (fun _ h => h) _).alloc (fun _ h => h) _).alloc (fun _ h => h) _))
  have HNE : Hid (¬ b3 = b7 ∧ ¬ b5 = b7 ∧ w.heap.size ≤ b7) := Lib.hid ⟨by omega, by omega, by omega⟩
  have HEQ : Hid (w4 = (((w.alloc (.cells #[.bool f, .slice A n c, .slice B m d] 29)).alloc (.cells #[.bool lb, .slice LA lan lac] 56)).alloc (.cells #[.bool hb, .slice H hn hc] 56)).alloc (.cells #[.bool lb, .slice LA lan lac] 56) ∧ b3 = w.heap.size ∧ b5 = w.heap.size + 1 + 1 ∧ b7 = w.heap.size + 1 + 1 + 1) := Lib.hid ⟨hw4, hb3, hb5, hb7⟩
  have HLF : Hid (x.leaf = f) := Lib.hid hN.1.symm
  have HMM0 : Hid (many x = if f = true then n else m) := Lib.hid (by unfold many; rw [← hN.1, hN.2.1.len, hN.2.2.len])
  clear hN hlb hl hhb hh hw4 hb3 hb5 hb7
  go_enter Try.func38, Try.ntmps38
  go_upto_region 2 with (fail)
  rw [← HEQ.out.2.2.2, ← HEQ.out.2.2.1, ← HEQ.out.2.1, ← HEQ.out.1]
  cases f with
  | true =>
    have HMM : Hid (many x = n) := Lib.hid (by rw [HMM0.out]; rfl)
    go_wp2_with (fail)
    go_loopg [8, 9] n (fun gk eqv i wr => ∃ (k : Nat) (lb : Bool) (LA : Option Addr) (lan lac : Nat) (last : Option Bytes) (eq : Bool), gk = n - k ∧ k ≤ n ∧ eqv = .bool eq ∧ i = .int .i64 (k : Int) ∧ lb = last.isSome ∧ Hid (Blk wr b3 29 [.bool true, .slice A n c, .slice B m d]) ∧ Hid (Blk wr b5 56 [.bool hb, .slice H hn hc]) ∧ Hid (Blk wr b7 56 [.bool lb, .slice LA lan lac]) ∧ Hid (Only (w.heap.size ≤ ·) w wr) ∧ Hid (Src w (.slice LA lan lac) (last.getD [])) ∧ Hid (KeysP hi lo true (restK x 0) ↔ KeysP hi last eq (restK x k)))
    case atStart => exact ⟨0, lb, LA, lan, lac, lo, true, rfl, Nat.zero_le _, rfl, rfl, HLS.out, HB3, HB5, HB7, HO4, HLA0, Lib.hid Iff.rfl⟩
    case round =>
      clear HB3 HB5 HB7 HLA0 HLS
      obtain ⟨k, lb, LA, lan, lac, last, eq, rfl, hk, rfl, rfl, hls, HB3, HB5, HB7, HO, HLA0, HKK⟩ := hrel
      have HLS := Lib.hid hls
      clear hls
      (obtain ⟨c0, c1, c2⟩ := HB3.out.tri)
      (obtain ⟨d0, d1⟩ := two_cells HB5.out)
      (obtain ⟨e0, e1⟩ := two_cells HB7.out)
      (have f0 := HB7.out.frozen 0)
      (have f1 := HB7.out.frozen 1)
      by_cases hlt : k < n
      · have hlt' : (k : Int) < (n : Int) := by omega
        go_upto_region 6 with (go_at_call 29; (have hc := DMany_c _ true A B _ _ _ _ x (HND.out.later HO.out)); rw [HMM.out] at hc; (with_reducible refine hc.mono ?_); rintro ee w2 ⟨rfl, ho⟩; clear hc; replace HB3 := Lib.hid (HB3.out.later ho); replace HB5 := Lib.hid (HB5.out.later ho); replace HB7 := Lib.hid (HB7.out.later ho); replace HO := Lib.hid (on_new HO.out ho); clear c0 c1 c2 d0 d1 e0 e1 f0 f1; (obtain ⟨c0, c1, c2⟩ := HB3.out.tri); (obtain ⟨d0, d1⟩ := two_cells HB5.out); (obtain ⟨e0, e1⟩ := two_cells HB7.out); (have f0 := HB7.out.frozen 0); (have f1 := HB7.out.frozen 1); clear ho)
        obtain ⟨bb, off, y0, P, p, rfl, hy, q0, hys⟩ := its_key (HND.out.2.1.later HO.out) hlt
        obtain ⟨y, hyy⟩ : ∃ z, z = y0.1 := ⟨_, rfl⟩
        rw [← hyy] at hys q0
        have HY := Lib.hid hy
        have HYY := Lib.hid hyy
        obtain ⟨yl, hyl⟩ : ∃ z, z = y.length := ⟨_, rfl⟩
        rw [← hyl] at hys q0
        have HYS : Hid (Src w (.slice P yl p) y) := Lib.hid (by
          obtain ⟨b2, o2, y2, P2, p2, e2, hy2, s2, s3⟩ := its_key HND.out.2.1 hlt
          cases e2
          rw [hy] at hy2
          cases hy2
          have h3 := cell_later s2 HO.out
          rw [q0] at h3
          cases h3
          rw [hyl, hyy]
          exact s3)
        clear hy hyy hyl hys
        have HRC : Hid (restK x k = y :: restK x (k + 1)) := Lib.hid (rest_cons (by unfold keysOf; rw [if_pos HLF.out]; rw [List.getElem?_map, HY.out, HYY.out]; rfl) (.inl HLF.out))
        cases last with
        | none =>
          obtain rfl : lb = false := HLS.out
          cases hi with
          | none =>
            obtain rfl : hb = false := HHB.out
            go_wp2_with (fail)
            have HBN := Lib.hid ((HB7.out.set_ 0 (.bool true)).set_ 1 (.slice P yl p))
            have HOS : Hid (Only (fun j => j = b7) w2 ((w2.setCell ⟨b7, 0, none⟩ (.bool true)).setCell ⟨b7, 1, none⟩ (.slice P yl p))) := Lib.hid (((Only.refl (fun j => j = b7) _).setCell (p := ⟨b7, 0, none⟩) rfl _).setCell (p := ⟨b7, 1, none⟩) rfl _)
            have HB3N := Lib.hid (HB3.out.only HOS.out (fun e => HNE.out.1 e))
            have HB5N := Lib.hid (HB5.out.only HOS.out (fun e => HNE.out.2.1 e))
            have HON := Lib.hid (HO.out.trans (HOS.out.mono fun j hj => by subst hj; exact HNE.out.2.2))
            go_roundg (n - (k + 1))
            case measure => omega
            case rel => exact ⟨k + 1, true, P, yl, p, some y, false, rfl, by omega, rfl, by go_num, rfl, HB3N, HB5N, HBN, HON, HYS, Lib.hid (HKK.out.trans (by rw [HRC.out]; exact ⟨fun h => h.2, fun h => ⟨⟨(fun b hb => nomatch hb), (fun b hb => nomatch hb)⟩, h⟩⟩))⟩
          | some hk =>
            obtain rfl : hb = true := HHB.out
            have HHI : Hid (Src w (.slice H hn hc) hk) := HHI0
            obtain ⟨v2, hv2⟩ : ∃ v, cmp y hk = v := ⟨_, rfl⟩
            have HV2 := Lib.hid hv2
            clear hv2
            by_cases h3 : (0 : Int) ≤ v2
            · have HV2L := Lib.hid h3
              go_wp2_with (go_at_call 20; (with_reducible refine (rCompare_b _ (.slice P yl p) (.slice H hn hc) y hk _ (HYS.out.later HO.out) (HHI.out.later HO.out) HV2.out).mono ?_); rintro ee w4 ⟨rfl, ho⟩; replace HB3 := Lib.hid (HB3.out.later ho); replace HB5 := Lib.hid (HB5.out.later ho); replace HB7 := Lib.hid (HB7.out.later ho); replace HO := Lib.hid (on_new HO.out ho); clear c0 c1 c2 d0 d1 e0 e1 f0 f1; (obtain ⟨c0, c1, c2⟩ := HB3.out.tri); (obtain ⟨d0, d1⟩ := two_cells HB5.out); (obtain ⟨e0, e1⟩ := two_cells HB7.out); (have f0 := HB7.out.frozen 0); (have f1 := HB7.out.frozen 1); clear ho)
              go_ret
              exact ⟨⟨false, rfl, (fun h => nomatch h), fun h => by have := HKK.out.1 h; rw [HRC.out] at this; exact absurd (by rw [HV2.out]; exact HV2L.out) (this.1.2 hk rfl)⟩, HO.out⟩
            · have HV2L : Hid (v2 < 0) := Lib.hid (by omega)
              go_wp2_with (go_at_call 20; (with_reducible refine (rCompare_b _ (.slice P yl p) (.slice H hn hc) y hk _ (HYS.out.later HO.out) (HHI.out.later HO.out) HV2.out).mono ?_); rintro ee w4 ⟨rfl, ho⟩; replace HB3 := Lib.hid (HB3.out.later ho); replace HB5 := Lib.hid (HB5.out.later ho); replace HB7 := Lib.hid (HB7.out.later ho); replace HO := Lib.hid (on_new HO.out ho); clear c0 c1 c2 d0 d1 e0 e1 f0 f1; (obtain ⟨c0, c1, c2⟩ := HB3.out.tri); (obtain ⟨d0, d1⟩ := two_cells HB5.out); (obtain ⟨e0, e1⟩ := two_cells HB7.out); (have f0 := HB7.out.frozen 0); (have f1 := HB7.out.frozen 1); clear ho)
              have HBN := Lib.hid ((HB7.out.set_ 0 (.bool true)).set_ 1 (.slice P yl p))
              have HOS : Hid (Only (fun j => j = b7) w4 ((w4.setCell ⟨b7, 0, none⟩ (.bool true)).setCell ⟨b7, 1, none⟩ (.slice P yl p))) := Lib.hid (((Only.refl (fun j => j = b7) _).setCell (p := ⟨b7, 0, none⟩) rfl _).setCell (p := ⟨b7, 1, none⟩) rfl _)
              have HB3N := Lib.hid (HB3.out.only HOS.out (fun e => HNE.out.1 e))
              have HB5N := Lib.hid (HB5.out.only HOS.out (fun e => HNE.out.2.1 e))
              have HON := Lib.hid (HO.out.trans (HOS.out.mono fun j hj => by subst hj; exact HNE.out.2.2))
              go_roundg (n - (k + 1))
              case measure => omega
              case rel => exact ⟨k + 1, true, P, yl, p, some y, false, rfl, by omega, rfl, by go_num, rfl, HB3N, HB5N, HBN, HON, HYS, Lib.hid (HKK.out.trans (by rw [HRC.out]; exact ⟨fun h => h.2, fun h => ⟨⟨(fun b hb => nomatch hb), (fun b hb => by cases hb; rw [HV2.out]; have := HV2L.out; omega)⟩, h⟩⟩))⟩
        | some la =>
          obtain rfl : lb = true := HLS.out
          have HLA : Hid (Src w (.slice LA lan lac) la) := HLA0
          obtain ⟨v1, hv1⟩ : ∃ v, cmp y la = v := ⟨_, rfl⟩
          have HV1 := Lib.hid hv1
          clear hv1
          by_cases h1 : v1 < 0
          · have HV1L : Hid (cmp y la < 0) := Lib.hid (by rw [HV1.out]; exact h1)
            go_wp2_with (go_at_call 20; (with_reducible refine (rCompare_b _ (.slice P yl p) (.slice LA lan lac) y la _ (HYS.out.later HO.out) (HLA.out.later HO.out) HV1.out).mono ?_); rintro ee w3 ⟨rfl, ho⟩; replace HB3 := Lib.hid (HB3.out.later ho); replace HB5 := Lib.hid (HB5.out.later ho); replace HB7 := Lib.hid (HB7.out.later ho); replace HO := Lib.hid (on_new HO.out ho); clear c0 c1 c2 d0 d1 e0 e1 f0 f1; (obtain ⟨c0, c1, c2⟩ := HB3.out.tri); (obtain ⟨d0, d1⟩ := two_cells HB5.out); (obtain ⟨e0, e1⟩ := two_cells HB7.out); (have f0 := HB7.out.frozen 0); (have f1 := HB7.out.frozen 1); clear ho)
            go_ret
            exact ⟨⟨false, rfl, (fun h => nomatch h), fun h => by have := HKK.out.1 h; rw [HRC.out] at this; exact absurd (.inl HV1L.out) (this.1.1 la rfl)⟩, HO.out⟩
          · by_cases h2 : v1 = 0
            · subst h2
              cases eq with
              | false =>
                go_wp2_with (go_at_call 20; (with_reducible refine (rCompare_b _ (.slice P yl p) (.slice LA lan lac) y la _ (HYS.out.later HO.out) (HLA.out.later HO.out) HV1.out).mono ?_); rintro ee w3 ⟨rfl, ho⟩; replace HB3 := Lib.hid (HB3.out.later ho); replace HB5 := Lib.hid (HB5.out.later ho); replace HB7 := Lib.hid (HB7.out.later ho); replace HO := Lib.hid (on_new HO.out ho); clear c0 c1 c2 d0 d1 e0 e1 f0 f1; (obtain ⟨c0, c1, c2⟩ := HB3.out.tri); (obtain ⟨d0, d1⟩ := two_cells HB5.out); (obtain ⟨e0, e1⟩ := two_cells HB7.out); (have f0 := HB7.out.frozen 0); (have f1 := HB7.out.frozen 1); clear ho)
                go_ret
                exact ⟨⟨false, rfl, (fun h => nomatch h), fun h => by have := HKK.out.1 h; rw [HRC.out] at this; exact absurd (.inr ⟨HV1.out, rfl⟩) (this.1.1 la rfl)⟩, HO.out⟩
              | true =>
                cases hi with
                | none =>
                  obtain rfl : hb = false := HHB.out
                  go_wp2_with (go_at_call 20; (with_reducible refine (rCompare_b _ (.slice P yl p) (.slice LA lan lac) y la _ (HYS.out.later HO.out) (HLA.out.later HO.out) HV1.out).mono ?_); rintro ee w3 ⟨rfl, ho⟩; replace HB3 := Lib.hid (HB3.out.later ho); replace HB5 := Lib.hid (HB5.out.later ho); replace HB7 := Lib.hid (HB7.out.later ho); replace HO := Lib.hid (on_new HO.out ho); clear c0 c1 c2 d0 d1 e0 e1 f0 f1; (obtain ⟨c0, c1, c2⟩ := HB3.out.tri); (obtain ⟨d0, d1⟩ := two_cells HB5.out); (obtain ⟨e0, e1⟩ := two_cells HB7.out); (have f0 := HB7.out.frozen 0); (have f1 := HB7.out.frozen 1); clear ho)
                  have HBN := Lib.hid ((HB7.out.set_ 0 (.bool true)).set_ 1 (.slice P yl p))
                  have HOS : Hid (Only (fun j => j = b7) w3 ((w3.setCell ⟨b7, 0, none⟩ (.bool true)).setCell ⟨b7, 1, none⟩ (.slice P yl p))) := Lib.hid (((Only.refl (fun j => j = b7) _).setCell (p := ⟨b7, 0, none⟩) rfl _).setCell (p := ⟨b7, 1, none⟩) rfl _)
                  have HB3N := Lib.hid (HB3.out.only HOS.out (fun e => HNE.out.1 e))
                  have HB5N := Lib.hid (HB5.out.only HOS.out (fun e => HNE.out.2.1 e))
                  have HON := Lib.hid (HO.out.trans (HOS.out.mono fun j hj => by subst hj; exact HNE.out.2.2))
                  go_roundg (n - (k + 1))
                  case measure => omega
                  case rel => exact ⟨k + 1, true, P, yl, p, some y, false, rfl, by omega, rfl, by go_num, rfl, HB3N, HB5N, HBN, HON, HYS, Lib.hid (HKK.out.trans (by rw [HRC.out]; exact ⟨fun h => h.2, fun h => ⟨⟨(fun b hb => by cases hb; rw [HV1.out]; exact (fun h => h.elim (fun h => absurd h (by omega)) (fun h => nomatch h.2))), (fun b hb => nomatch hb)⟩, h⟩⟩))⟩
                | some hk =>
                  obtain rfl : hb = true := HHB.out
                  have HHI : Hid (Src w (.slice H hn hc) hk) := HHI0
                  obtain ⟨v2, hv2⟩ : ∃ v, cmp y hk = v := ⟨_, rfl⟩
                  have HV2 := Lib.hid hv2
                  clear hv2
                  by_cases h3 : (0 : Int) ≤ v2
                  · have HV2L := Lib.hid h3
                    go_wp2_with (first | (go_at_call 20; (with_reducible refine (rCompare_b _ (.slice P yl p) (.slice LA lan lac) y la _ (HYS.out.later HO.out) (HLA.out.later HO.out) HV1.out).mono ?_); rintro ee w3 ⟨rfl, ho⟩; replace HB3 := Lib.hid (HB3.out.later ho); replace HB5 := Lib.hid (HB5.out.later ho); replace HB7 := Lib.hid (HB7.out.later ho); replace HO := Lib.hid (on_new HO.out ho); clear c0 c1 c2 d0 d1 e0 e1 f0 f1; (obtain ⟨c0, c1, c2⟩ := HB3.out.tri); (obtain ⟨d0, d1⟩ := two_cells HB5.out); (obtain ⟨e0, e1⟩ := two_cells HB7.out); (have f0 := HB7.out.frozen 0); (have f1 := HB7.out.frozen 1); clear ho) | (go_at_call 20; (with_reducible refine (rCompare_b _ (.slice P yl p) (.slice H hn hc) y hk _ (HYS.out.later HO.out) (HHI.out.later HO.out) HV2.out).mono ?_); rintro ee w4 ⟨rfl, ho⟩; replace HB3 := Lib.hid (HB3.out.later ho); replace HB5 := Lib.hid (HB5.out.later ho); replace HB7 := Lib.hid (HB7.out.later ho); replace HO := Lib.hid (on_new HO.out ho); clear c0 c1 c2 d0 d1 e0 e1 f0 f1; (obtain ⟨c0, c1, c2⟩ := HB3.out.tri); (obtain ⟨d0, d1⟩ := two_cells HB5.out); (obtain ⟨e0, e1⟩ := two_cells HB7.out); (have f0 := HB7.out.frozen 0); (have f1 := HB7.out.frozen 1); clear ho))
                    go_ret
                    exact ⟨⟨false, rfl, (fun h => nomatch h), fun h => by have := HKK.out.1 h; rw [HRC.out] at this; exact absurd (by rw [HV2.out]; exact HV2L.out) (this.1.2 hk rfl)⟩, HO.out⟩
                  · have HV2L : Hid (v2 < 0) := Lib.hid (by omega)
                    go_wp2_with (first | (go_at_call 20; (with_reducible refine (rCompare_b _ (.slice P yl p) (.slice LA lan lac) y la _ (HYS.out.later HO.out) (HLA.out.later HO.out) HV1.out).mono ?_); rintro ee w3 ⟨rfl, ho⟩; replace HB3 := Lib.hid (HB3.out.later ho); replace HB5 := Lib.hid (HB5.out.later ho); replace HB7 := Lib.hid (HB7.out.later ho); replace HO := Lib.hid (on_new HO.out ho); clear c0 c1 c2 d0 d1 e0 e1 f0 f1; (obtain ⟨c0, c1, c2⟩ := HB3.out.tri); (obtain ⟨d0, d1⟩ := two_cells HB5.out); (obtain ⟨e0, e1⟩ := two_cells HB7.out); (have f0 := HB7.out.frozen 0); (have f1 := HB7.out.frozen 1); clear ho) | (go_at_call 20; (with_reducible refine (rCompare_b _ (.slice P yl p) (.slice H hn hc) y hk _ (HYS.out.later HO.out) (HHI.out.later HO.out) HV2.out).mono ?_); rintro ee w4 ⟨rfl, ho⟩; replace HB3 := Lib.hid (HB3.out.later ho); replace HB5 := Lib.hid (HB5.out.later ho); replace HB7 := Lib.hid (HB7.out.later ho); replace HO := Lib.hid (on_new HO.out ho); clear c0 c1 c2 d0 d1 e0 e1 f0 f1; (obtain ⟨c0, c1, c2⟩ := HB3.out.tri); (obtain ⟨d0, d1⟩ := two_cells HB5.out); (obtain ⟨e0, e1⟩ := two_cells HB7.out); (have f0 := HB7.out.frozen 0); (have f1 := HB7.out.frozen 1); clear ho))
                    have HBN := Lib.hid ((HB7.out.set_ 0 (.bool true)).set_ 1 (.slice P yl p))
                    have HOS : Hid (Only (fun j => j = b7) w4 ((w4.setCell ⟨b7, 0, none⟩ (.bool true)).setCell ⟨b7, 1, none⟩ (.slice P yl p))) := Lib.hid (((Only.refl (fun j => j = b7) _).setCell (p := ⟨b7, 0, none⟩) rfl _).setCell (p := ⟨b7, 1, none⟩) rfl _)
                    have HB3N := Lib.hid (HB3.out.only HOS.out (fun e => HNE.out.1 e))
                    have HB5N := Lib.hid (HB5.out.only HOS.out (fun e => HNE.out.2.1 e))
                    have HON := Lib.hid (HO.out.trans (HOS.out.mono fun j hj => by subst hj; exact HNE.out.2.2))
                    go_roundg (n - (k + 1))
                    case measure => omega
                    case rel => exact ⟨k + 1, true, P, yl, p, some y, false, rfl, by omega, rfl, by go_num, rfl, HB3N, HB5N, HBN, HON, HYS, Lib.hid (HKK.out.trans (by rw [HRC.out]; exact ⟨fun h => h.2, fun h => ⟨⟨(fun b hb => by cases hb; rw [HV1.out]; exact (fun h => h.elim (fun h => absurd h (by omega)) (fun h => nomatch h.2))), (fun b hb => by cases hb; rw [HV2.out]; have := HV2L.out; omega)⟩, h⟩⟩))⟩
            · have HV1L : Hid (0 < v1) := Lib.hid (by omega)
              cases hi with
              | none =>
                obtain rfl : hb = false := HHB.out
                go_wp2_with (go_at_call 20; (with_reducible refine (rCompare_b _ (.slice P yl p) (.slice LA lan lac) y la _ (HYS.out.later HO.out) (HLA.out.later HO.out) HV1.out).mono ?_); rintro ee w3 ⟨rfl, ho⟩; replace HB3 := Lib.hid (HB3.out.later ho); replace HB5 := Lib.hid (HB5.out.later ho); replace HB7 := Lib.hid (HB7.out.later ho); replace HO := Lib.hid (on_new HO.out ho); clear c0 c1 c2 d0 d1 e0 e1 f0 f1; (obtain ⟨c0, c1, c2⟩ := HB3.out.tri); (obtain ⟨d0, d1⟩ := two_cells HB5.out); (obtain ⟨e0, e1⟩ := two_cells HB7.out); (have f0 := HB7.out.frozen 0); (have f1 := HB7.out.frozen 1); clear ho)
                have HBN := Lib.hid ((HB7.out.set_ 0 (.bool true)).set_ 1 (.slice P yl p))
                have HOS : Hid (Only (fun j => j = b7) w3 ((w3.setCell ⟨b7, 0, none⟩ (.bool true)).setCell ⟨b7, 1, none⟩ (.slice P yl p))) := Lib.hid (((Only.refl (fun j => j = b7) _).setCell (p := ⟨b7, 0, none⟩) rfl _).setCell (p := ⟨b7, 1, none⟩) rfl _)
                have HB3N := Lib.hid (HB3.out.only HOS.out (fun e => HNE.out.1 e))
                have HB5N := Lib.hid (HB5.out.only HOS.out (fun e => HNE.out.2.1 e))
                have HON := Lib.hid (HO.out.trans (HOS.out.mono fun j hj => by subst hj; exact HNE.out.2.2))
                go_roundg (n - (k + 1))
                case measure => omega
                case rel => exact ⟨k + 1, true, P, yl, p, some y, false, rfl, by omega, rfl, by go_num, rfl, HB3N, HB5N, HBN, HON, HYS, Lib.hid (HKK.out.trans (by rw [HRC.out]; exact ⟨fun h => h.2, fun h => ⟨⟨(fun b hb => by cases hb; rw [HV1.out]; have := HV1L.out; exact (fun h => h.elim (fun h => by omega) (fun h => by have := h.1; omega))), (fun b hb => nomatch hb)⟩, h⟩⟩))⟩
              | some hk =>
                obtain rfl : hb = true := HHB.out
                have HHI : Hid (Src w (.slice H hn hc) hk) := HHI0
                obtain ⟨v2, hv2⟩ : ∃ v, cmp y hk = v := ⟨_, rfl⟩
                have HV2 := Lib.hid hv2
                clear hv2
                by_cases h3 : (0 : Int) ≤ v2
                · have HV2L := Lib.hid h3
                  go_wp2_with (first | (go_at_call 20; (with_reducible refine (rCompare_b _ (.slice P yl p) (.slice LA lan lac) y la _ (HYS.out.later HO.out) (HLA.out.later HO.out) HV1.out).mono ?_); rintro ee w3 ⟨rfl, ho⟩; replace HB3 := Lib.hid (HB3.out.later ho); replace HB5 := Lib.hid (HB5.out.later ho); replace HB7 := Lib.hid (HB7.out.later ho); replace HO := Lib.hid (on_new HO.out ho); clear c0 c1 c2 d0 d1 e0 e1 f0 f1; (obtain ⟨c0, c1, c2⟩ := HB3.out.tri); (obtain ⟨d0, d1⟩ := two_cells HB5.out); (obtain ⟨e0, e1⟩ := two_cells HB7.out); (have f0 := HB7.out.frozen 0); (have f1 := HB7.out.frozen 1); clear ho) | (go_at_call 20; (with_reducible refine (rCompare_b _ (.slice P yl p) (.slice H hn hc) y hk _ (HYS.out.later HO.out) (HHI.out.later HO.out) HV2.out).mono ?_); rintro ee w4 ⟨rfl, ho⟩; replace HB3 := Lib.hid (HB3.out.later ho); replace HB5 := Lib.hid (HB5.out.later ho); replace HB7 := Lib.hid (HB7.out.later ho); replace HO := Lib.hid (on_new HO.out ho); clear c0 c1 c2 d0 d1 e0 e1 f0 f1; (obtain ⟨c0, c1, c2⟩ := HB3.out.tri); (obtain ⟨d0, d1⟩ := two_cells HB5.out); (obtain ⟨e0, e1⟩ := two_cells HB7.out); (have f0 := HB7.out.frozen 0); (have f1 := HB7.out.frozen 1); clear ho))
                  go_ret
                  exact ⟨⟨false, rfl, (fun h => nomatch h), fun h => by have := HKK.out.1 h; rw [HRC.out] at this; exact absurd (by rw [HV2.out]; exact HV2L.out) (this.1.2 hk rfl)⟩, HO.out⟩
                · have HV2L : Hid (v2 < 0) := Lib.hid (by omega)
                  go_wp2_with (first | (go_at_call 20; (with_reducible refine (rCompare_b _ (.slice P yl p) (.slice LA lan lac) y la _ (HYS.out.later HO.out) (HLA.out.later HO.out) HV1.out).mono ?_); rintro ee w3 ⟨rfl, ho⟩; replace HB3 := Lib.hid (HB3.out.later ho); replace HB5 := Lib.hid (HB5.out.later ho); replace HB7 := Lib.hid (HB7.out.later ho); replace HO := Lib.hid (on_new HO.out ho); clear c0 c1 c2 d0 d1 e0 e1 f0 f1; (obtain ⟨c0, c1, c2⟩ := HB3.out.tri); (obtain ⟨d0, d1⟩ := two_cells HB5.out); (obtain ⟨e0, e1⟩ := two_cells HB7.out); (have f0 := HB7.out.frozen 0); (have f1 := HB7.out.frozen 1); clear ho) | (go_at_call 20; (with_reducible refine (rCompare_b _ (.slice P yl p) (.slice H hn hc) y hk _ (HYS.out.later HO.out) (HHI.out.later HO.out) HV2.out).mono ?_); rintro ee w4 ⟨rfl, ho⟩; replace HB3 := Lib.hid (HB3.out.later ho); replace HB5 := Lib.hid (HB5.out.later ho); replace HB7 := Lib.hid (HB7.out.later ho); replace HO := Lib.hid (on_new HO.out ho); clear c0 c1 c2 d0 d1 e0 e1 f0 f1; (obtain ⟨c0, c1, c2⟩ := HB3.out.tri); (obtain ⟨d0, d1⟩ := two_cells HB5.out); (obtain ⟨e0, e1⟩ := two_cells HB7.out); (have f0 := HB7.out.frozen 0); (have f1 := HB7.out.frozen 1); clear ho))
                  have HBN := Lib.hid ((HB7.out.set_ 0 (.bool true)).set_ 1 (.slice P yl p))
                  have HOS : Hid (Only (fun j => j = b7) w4 ((w4.setCell ⟨b7, 0, none⟩ (.bool true)).setCell ⟨b7, 1, none⟩ (.slice P yl p))) := Lib.hid (((Only.refl (fun j => j = b7) _).setCell (p := ⟨b7, 0, none⟩) rfl _).setCell (p := ⟨b7, 1, none⟩) rfl _)
                  have HB3N := Lib.hid (HB3.out.only HOS.out (fun e => HNE.out.1 e))
                  have HB5N := Lib.hid (HB5.out.only HOS.out (fun e => HNE.out.2.1 e))
                  have HON := Lib.hid (HO.out.trans (HOS.out.mono fun j hj => by subst hj; exact HNE.out.2.2))
                  go_roundg (n - (k + 1))
                  case measure => omega
                  case rel => exact ⟨k + 1, true, P, yl, p, some y, false, rfl, by omega, rfl, by go_num, rfl, HB3N, HB5N, HBN, HON, HYS, Lib.hid (HKK.out.trans (by rw [HRC.out]; exact ⟨fun h => h.2, fun h => ⟨⟨(fun b hb => by cases hb; rw [HV1.out]; have := HV1L.out; exact (fun h => h.elim (fun h => by omega) (fun h => by have := h.1; omega))), (fun b hb => by cases hb; rw [HV2.out]; have := HV2L.out; omega)⟩, h⟩⟩))⟩
      · obtain rfl : k = n := by omega
        have hkm : ¬ (k : Int) < (k : Int) := by omega
        have HRE : Hid (restK x k = []) := Lib.hid (rest_end (Nat.le_of_eq HMM.out))
        go_wp2_with (go_at_call 29; (have hc := DMany_c _ true A B _ _ _ _ x (HND.out.later HO.out)); rw [HMM.out] at hc; (with_reducible refine hc.mono ?_); rintro ee w2 ⟨rfl, ho⟩; clear hc; replace HB3 := Lib.hid (HB3.out.later ho); replace HB5 := Lib.hid (HB5.out.later ho); replace HB7 := Lib.hid (HB7.out.later ho); replace HO := Lib.hid (on_new HO.out ho); clear c0 c1 c2 d0 d1 e0 e1 f0 f1; (obtain ⟨c0, c1, c2⟩ := HB3.out.tri); (obtain ⟨d0, d1⟩ := two_cells HB5.out); (obtain ⟨e0, e1⟩ := two_cells HB7.out); (have f0 := HB7.out.frozen 0); (have f1 := HB7.out.frozen 1); clear ho)
        go_ret
        exact ⟨⟨true, rfl, fun _ => HKK.out.2 (by rw [HRE.out]; trivial), fun _ => rfl⟩, HO.out⟩
  | false =>
    have HMM : Hid (many x = m) := Lib.hid (by rw [HMM0.out]; rfl)
    go_wp2_with (fail)
    go_loopg [8, 9] m (fun gk eqv i wr => ∃ (k : Nat) (lb : Bool) (LA : Option Addr) (lan lac : Nat) (last : Option Bytes) (eq : Bool), gk = m - k ∧ k ≤ m ∧ eqv = .bool eq ∧ i = .int .i64 (k : Int) ∧ lb = last.isSome ∧ Hid (Blk wr b3 29 [.bool false, .slice A n c, .slice B m d]) ∧ Hid (Blk wr b5 56 [.bool hb, .slice H hn hc]) ∧ Hid (Blk wr b7 56 [.bool lb, .slice LA lan lac]) ∧ Hid (Only (w.heap.size ≤ ·) w wr) ∧ Hid (Src w (.slice LA lan lac) (last.getD [])) ∧ Hid (KeysP hi lo true (restK x 0) ↔ KeysP hi last eq (restK x k)))
    case atStart => exact ⟨0, lb, LA, lan, lac, lo, true, rfl, Nat.zero_le _, rfl, rfl, HLS.out, HB3, HB5, HB7, HO4, HLA0, Lib.hid Iff.rfl⟩
    case round =>
      clear HB3 HB5 HB7 HLA0 HLS
      obtain ⟨k, lb, LA, lan, lac, last, eq, rfl, hk, rfl, rfl, hls, HB3, HB5, HB7, HO, HLA0, HKK⟩ := hrel
      have HLS := Lib.hid hls
      clear hls
      (obtain ⟨c0, c1, c2⟩ := HB3.out.tri)
      (obtain ⟨d0, d1⟩ := two_cells HB5.out)
      (obtain ⟨e0, e1⟩ := two_cells HB7.out)
      (have f0 := HB7.out.frozen 0)
      (have f1 := HB7.out.frozen 1)
      by_cases hlt : k < m
      · have hlt' : (k : Int) < (m : Int) := by omega
        go_upto_region 6 with (go_at_call 29; (have hc := DMany_c _ false A B _ _ _ _ x (HND.out.later HO.out)); rw [HMM.out] at hc; (with_reducible refine hc.mono ?_); rintro ee w2 ⟨rfl, ho⟩; clear hc; replace HB3 := Lib.hid (HB3.out.later ho); replace HB5 := Lib.hid (HB5.out.later ho); replace HB7 := Lib.hid (HB7.out.later ho); replace HO := Lib.hid (on_new HO.out ho); clear c0 c1 c2 d0 d1 e0 e1 f0 f1; (obtain ⟨c0, c1, c2⟩ := HB3.out.tri); (obtain ⟨d0, d1⟩ := two_cells HB5.out); (obtain ⟨e0, e1⟩ := two_cells HB7.out); (have f0 := HB7.out.frozen 0); (have f1 := HB7.out.frozen 1); clear ho)
        obtain ⟨bb, off, y0, P, p, rfl, hy, q0, hys⟩ := kds_key (HND.out.2.2.later HO.out) hlt
        obtain ⟨y, hyy⟩ : ∃ z, z = y0.1 := ⟨_, rfl⟩
        rw [← hyy] at hys q0
        have HY := Lib.hid hy
        have HYY := Lib.hid hyy
        obtain ⟨yl, hyl⟩ : ∃ z, z = y.length := ⟨_, rfl⟩
        rw [← hyl] at hys q0
        have HYS : Hid (Src w (.slice P yl p) y) := Lib.hid (by
          obtain ⟨b2, o2, y2, P2, p2, e2, hy2, s2, s3⟩ := kds_key HND.out.2.2 hlt
          cases e2
          rw [hy] at hy2
          cases hy2
          have h3 := cell_later s2 HO.out
          rw [q0] at h3
          cases h3
          rw [hyl, hyy]
          exact s3)
        clear hy hyy hyl hys
        by_cases hk0 : k = 0
        · subst hk0
          have HRS : Hid (restK x 0 = restK x (0 + 1)) := Lib.hid (rest_skip HLF.out)
          simp only [Nat.zero_mul, Nat.add_zero] at q0
          go_wp2_with (fail)
          go_roundg (m - (0 + 1))
          case measure => omega
          case rel => exact ⟨0 + 1, lb, LA, lan, lac, last, eq, rfl, by omega, rfl, rfl, HLS.out, HB3, HB5, HB7, HO, HLA0, Lib.hid (HKK.out.trans (by rw [HRS.out]))⟩
        have hk0' : ¬ (k : Int) = 0 := by omega
        have HRC : Hid (restK x k = y :: restK x (k + 1)) := Lib.hid (rest_cons (by unfold keysOf; rw [if_neg (fun h => by rw [HLF.out] at h; cases h)]; rw [List.getElem?_map, HY.out, HYY.out]; rfl) (.inr hk0))
        cases last with
        | none =>
          obtain rfl : lb = false := HLS.out
          cases hi with
          | none =>
            obtain rfl : hb = false := HHB.out
            go_wp2_with (fail)
            have HBN := Lib.hid ((HB7.out.set_ 0 (.bool true)).set_ 1 (.slice P yl p))
            have HOS : Hid (Only (fun j => j = b7) w2 ((w2.setCell ⟨b7, 0, none⟩ (.bool true)).setCell ⟨b7, 1, none⟩ (.slice P yl p))) := Lib.hid (((Only.refl (fun j => j = b7) _).setCell (p := ⟨b7, 0, none⟩) rfl _).setCell (p := ⟨b7, 1, none⟩) rfl _)
            have HB3N := Lib.hid (HB3.out.only HOS.out (fun e => HNE.out.1 e))
            have HB5N := Lib.hid (HB5.out.only HOS.out (fun e => HNE.out.2.1 e))
            have HON := Lib.hid (HO.out.trans (HOS.out.mono fun j hj => by subst hj; exact HNE.out.2.2))
            go_roundg (m - (k + 1))
            case measure => omega
            case rel => exact ⟨k + 1, true, P, yl, p, some y, false, rfl, by omega, rfl, by go_num, rfl, HB3N, HB5N, HBN, HON, HYS, Lib.hid (HKK.out.trans (by rw [HRC.out]; exact ⟨fun h => h.2, fun h => ⟨⟨(fun b hb => nomatch hb), (fun b hb => nomatch hb)⟩, h⟩⟩))⟩
          | some hk =>
            obtain rfl : hb = true := HHB.out
            have HHI : Hid (Src w (.slice H hn hc) hk) := HHI0
            obtain ⟨v2, hv2⟩ : ∃ v, cmp y hk = v := ⟨_, rfl⟩
            have HV2 := Lib.hid hv2
            clear hv2
            by_cases h3 : (0 : Int) ≤ v2
            · have HV2L := Lib.hid h3
              go_wp2_with (go_at_call 20; (with_reducible refine (rCompare_b _ (.slice P yl p) (.slice H hn hc) y hk _ (HYS.out.later HO.out) (HHI.out.later HO.out) HV2.out).mono ?_); rintro ee w4 ⟨rfl, ho⟩; replace HB3 := Lib.hid (HB3.out.later ho); replace HB5 := Lib.hid (HB5.out.later ho); replace HB7 := Lib.hid (HB7.out.later ho); replace HO := Lib.hid (on_new HO.out ho); clear c0 c1 c2 d0 d1 e0 e1 f0 f1; (obtain ⟨c0, c1, c2⟩ := HB3.out.tri); (obtain ⟨d0, d1⟩ := two_cells HB5.out); (obtain ⟨e0, e1⟩ := two_cells HB7.out); (have f0 := HB7.out.frozen 0); (have f1 := HB7.out.frozen 1); clear ho)
              go_ret
              exact ⟨⟨false, rfl, (fun h => nomatch h), fun h => by have := HKK.out.1 h; rw [HRC.out] at this; exact absurd (by rw [HV2.out]; exact HV2L.out) (this.1.2 hk rfl)⟩, HO.out⟩
            · have HV2L : Hid (v2 < 0) := Lib.hid (by omega)
              go_wp2_with (go_at_call 20; (with_reducible refine (rCompare_b _ (.slice P yl p) (.slice H hn hc) y hk _ (HYS.out.later HO.out) (HHI.out.later HO.out) HV2.out).mono ?_); rintro ee w4 ⟨rfl, ho⟩; replace HB3 := Lib.hid (HB3.out.later ho); replace HB5 := Lib.hid (HB5.out.later ho); replace HB7 := Lib.hid (HB7.out.later ho); replace HO := Lib.hid (on_new HO.out ho); clear c0 c1 c2 d0 d1 e0 e1 f0 f1; (obtain ⟨c0, c1, c2⟩ := HB3.out.tri); (obtain ⟨d0, d1⟩ := two_cells HB5.out); (obtain ⟨e0, e1⟩ := two_cells HB7.out); (have f0 := HB7.out.frozen 0); (have f1 := HB7.out.frozen 1); clear ho)
              have HBN := Lib.hid ((HB7.out.set_ 0 (.bool true)).set_ 1 (.slice P yl p))
              have HOS : Hid (Only (fun j => j = b7) w4 ((w4.setCell ⟨b7, 0, none⟩ (.bool true)).setCell ⟨b7, 1, none⟩ (.slice P yl p))) := Lib.hid (((Only.refl (fun j => j = b7) _).setCell (p := ⟨b7, 0, none⟩) rfl _).setCell (p := ⟨b7, 1, none⟩) rfl _)
              have HB3N := Lib.hid (HB3.out.only HOS.out (fun e => HNE.out.1 e))
              have HB5N := Lib.hid (HB5.out.only HOS.out (fun e => HNE.out.2.1 e))
              have HON := Lib.hid (HO.out.trans (HOS.out.mono fun j hj => by subst hj; exact HNE.out.2.2))
              go_roundg (m - (k + 1))
              case measure => omega
              case rel => exact ⟨k + 1, true, P, yl, p, some y, false, rfl, by omega, rfl, by go_num, rfl, HB3N, HB5N, HBN, HON, HYS, Lib.hid (HKK.out.trans (by rw [HRC.out]; exact ⟨fun h => h.2, fun h => ⟨⟨(fun b hb => nomatch hb), (fun b hb => by cases hb; rw [HV2.out]; have := HV2L.out; omega)⟩, h⟩⟩))⟩
        | some la =>
          obtain rfl : lb = true := HLS.out
          have HLA : Hid (Src w (.slice LA lan lac) la) := HLA0
          obtain ⟨v1, hv1⟩ : ∃ v, cmp y la = v := ⟨_, rfl⟩
          have HV1 := Lib.hid hv1
          clear hv1
          by_cases h1 : v1 < 0
          · have HV1L : Hid (cmp y la < 0) := Lib.hid (by rw [HV1.out]; exact h1)
            go_wp2_with (go_at_call 20; (with_reducible refine (rCompare_b _ (.slice P yl p) (.slice LA lan lac) y la _ (HYS.out.later HO.out) (HLA.out.later HO.out) HV1.out).mono ?_); rintro ee w3 ⟨rfl, ho⟩; replace HB3 := Lib.hid (HB3.out.later ho); replace HB5 := Lib.hid (HB5.out.later ho); replace HB7 := Lib.hid (HB7.out.later ho); replace HO := Lib.hid (on_new HO.out ho); clear c0 c1 c2 d0 d1 e0 e1 f0 f1; (obtain ⟨c0, c1, c2⟩ := HB3.out.tri); (obtain ⟨d0, d1⟩ := two_cells HB5.out); (obtain ⟨e0, e1⟩ := two_cells HB7.out); (have f0 := HB7.out.frozen 0); (have f1 := HB7.out.frozen 1); clear ho)
            go_ret
            exact ⟨⟨false, rfl, (fun h => nomatch h), fun h => by have := HKK.out.1 h; rw [HRC.out] at this; exact absurd (.inl HV1L.out) (this.1.1 la rfl)⟩, HO.out⟩
          · by_cases h2 : v1 = 0
            · subst h2
              cases eq with
              | false =>
                go_wp2_with (go_at_call 20; (with_reducible refine (rCompare_b _ (.slice P yl p) (.slice LA lan lac) y la _ (HYS.out.later HO.out) (HLA.out.later HO.out) HV1.out).mono ?_); rintro ee w3 ⟨rfl, ho⟩; replace HB3 := Lib.hid (HB3.out.later ho); replace HB5 := Lib.hid (HB5.out.later ho); replace HB7 := Lib.hid (HB7.out.later ho); replace HO := Lib.hid (on_new HO.out ho); clear c0 c1 c2 d0 d1 e0 e1 f0 f1; (obtain ⟨c0, c1, c2⟩ := HB3.out.tri); (obtain ⟨d0, d1⟩ := two_cells HB5.out); (obtain ⟨e0, e1⟩ := two_cells HB7.out); (have f0 := HB7.out.frozen 0); (have f1 := HB7.out.frozen 1); clear ho)
                go_ret
                exact ⟨⟨false, rfl, (fun h => nomatch h), fun h => by have := HKK.out.1 h; rw [HRC.out] at this; exact absurd (.inr ⟨HV1.out, rfl⟩) (this.1.1 la rfl)⟩, HO.out⟩
              | true =>
                cases hi with
                | none =>
                  obtain rfl : hb = false := HHB.out
                  go_wp2_with (go_at_call 20; (with_reducible refine (rCompare_b _ (.slice P yl p) (.slice LA lan lac) y la _ (HYS.out.later HO.out) (HLA.out.later HO.out) HV1.out).mono ?_); rintro ee w3 ⟨rfl, ho⟩; replace HB3 := Lib.hid (HB3.out.later ho); replace HB5 := Lib.hid (HB5.out.later ho); replace HB7 := Lib.hid (HB7.out.later ho); replace HO := Lib.hid (on_new HO.out ho); clear c0 c1 c2 d0 d1 e0 e1 f0 f1; (obtain ⟨c0, c1, c2⟩ := HB3.out.tri); (obtain ⟨d0, d1⟩ := two_cells HB5.out); (obtain ⟨e0, e1⟩ := two_cells HB7.out); (have f0 := HB7.out.frozen 0); (have f1 := HB7.out.frozen 1); clear ho)
                  have HBN := Lib.hid ((HB7.out.set_ 0 (.bool true)).set_ 1 (.slice P yl p))
                  have HOS : Hid (Only (fun j => j = b7) w3 ((w3.setCell ⟨b7, 0, none⟩ (.bool true)).setCell ⟨b7, 1, none⟩ (.slice P yl p))) := Lib.hid (((Only.refl (fun j => j = b7) _).setCell (p := ⟨b7, 0, none⟩) rfl _).setCell (p := ⟨b7, 1, none⟩) rfl _)
                  have HB3N := Lib.hid (HB3.out.only HOS.out (fun e => HNE.out.1 e))
                  have HB5N := Lib.hid (HB5.out.only HOS.out (fun e => HNE.out.2.1 e))
                  have HON := Lib.hid (HO.out.trans (HOS.out.mono fun j hj => by subst hj; exact HNE.out.2.2))
                  go_roundg (m - (k + 1))
                  case measure => omega
                  case rel => exact ⟨k + 1, true, P, yl, p, some y, false, rfl, by omega, rfl, by go_num, rfl, HB3N, HB5N, HBN, HON, HYS, Lib.hid (HKK.out.trans (by rw [HRC.out]; exact ⟨fun h => h.2, fun h => ⟨⟨(fun b hb => by cases hb; rw [HV1.out]; exact (fun h => h.elim (fun h => absurd h (by omega)) (fun h => nomatch h.2))), (fun b hb => nomatch hb)⟩, h⟩⟩))⟩
                | some hk =>
                  obtain rfl : hb = true := HHB.out
                  have HHI : Hid (Src w (.slice H hn hc) hk) := HHI0
                  obtain ⟨v2, hv2⟩ : ∃ v, cmp y hk = v := ⟨_, rfl⟩
                  have HV2 := Lib.hid hv2
                  clear hv2
                  by_cases h3 : (0 : Int) ≤ v2
                  · have HV2L := Lib.hid h3
                    go_wp2_with (first | (go_at_call 20; (with_reducible refine (rCompare_b _ (.slice P yl p) (.slice LA lan lac) y la _ (HYS.out.later HO.out) (HLA.out.later HO.out) HV1.out).mono ?_); rintro ee w3 ⟨rfl, ho⟩; replace HB3 := Lib.hid (HB3.out.later ho); replace HB5 := Lib.hid (HB5.out.later ho); replace HB7 := Lib.hid (HB7.out.later ho); replace HO := Lib.hid (on_new HO.out ho); clear c0 c1 c2 d0 d1 e0 e1 f0 f1; (obtain ⟨c0, c1, c2⟩ := HB3.out.tri); (obtain ⟨d0, d1⟩ := two_cells HB5.out); (obtain ⟨e0, e1⟩ := two_cells HB7.out); (have f0 := HB7.out.frozen 0); (have f1 := HB7.out.frozen 1); clear ho) | (go_at_call 20; (with_reducible refine (rCompare_b _ (.slice P yl p) (.slice H hn hc) y hk _ (HYS.out.later HO.out) (HHI.out.later HO.out) HV2.out).mono ?_); rintro ee w4 ⟨rfl, ho⟩; replace HB3 := Lib.hid (HB3.out.later ho); replace HB5 := Lib.hid (HB5.out.later ho); replace HB7 := Lib.hid (HB7.out.later ho); replace HO := Lib.hid (on_new HO.out ho); clear c0 c1 c2 d0 d1 e0 e1 f0 f1; (obtain ⟨c0, c1, c2⟩ := HB3.out.tri); (obtain ⟨d0, d1⟩ := two_cells HB5.out); (obtain ⟨e0, e1⟩ := two_cells HB7.out); (have f0 := HB7.out.frozen 0); (have f1 := HB7.out.frozen 1); clear ho))
                    go_ret
                    exact ⟨⟨false, rfl, (fun h => nomatch h), fun h => by have := HKK.out.1 h; rw [HRC.out] at this; exact absurd (by rw [HV2.out]; exact HV2L.out) (this.1.2 hk rfl)⟩, HO.out⟩
                  · have HV2L : Hid (v2 < 0) := Lib.hid (by omega)
                    go_wp2_with (first | (go_at_call 20; (with_reducible refine (rCompare_b _ (.slice P yl p) (.slice LA lan lac) y la _ (HYS.out.later HO.out) (HLA.out.later HO.out) HV1.out).mono ?_); rintro ee w3 ⟨rfl, ho⟩; replace HB3 := Lib.hid (HB3.out.later ho); replace HB5 := Lib.hid (HB5.out.later ho); replace HB7 := Lib.hid (HB7.out.later ho); replace HO := Lib.hid (on_new HO.out ho); clear c0 c1 c2 d0 d1 e0 e1 f0 f1; (obtain ⟨c0, c1, c2⟩ := HB3.out.tri); (obtain ⟨d0, d1⟩ := two_cells HB5.out); (obtain ⟨e0, e1⟩ := two_cells HB7.out); (have f0 := HB7.out.frozen 0); (have f1 := HB7.out.frozen 1); clear ho) | (go_at_call 20; (with_reducible refine (rCompare_b _ (.slice P yl p) (.slice H hn hc) y hk _ (HYS.out.later HO.out) (HHI.out.later HO.out) HV2.out).mono ?_); rintro ee w4 ⟨rfl, ho⟩; replace HB3 := Lib.hid (HB3.out.later ho); replace HB5 := Lib.hid (HB5.out.later ho); replace HB7 := Lib.hid (HB7.out.later ho); replace HO := Lib.hid (on_new HO.out ho); clear c0 c1 c2 d0 d1 e0 e1 f0 f1; (obtain ⟨c0, c1, c2⟩ := HB3.out.tri); (obtain ⟨d0, d1⟩ := two_cells HB5.out); (obtain ⟨e0, e1⟩ := two_cells HB7.out); (have f0 := HB7.out.frozen 0); (have f1 := HB7.out.frozen 1); clear ho))
                    have HBN := Lib.hid ((HB7.out.set_ 0 (.bool true)).set_ 1 (.slice P yl p))
                    have HOS : Hid (Only (fun j => j = b7) w4 ((w4.setCell ⟨b7, 0, none⟩ (.bool true)).setCell ⟨b7, 1, none⟩ (.slice P yl p))) := Lib.hid (((Only.refl (fun j => j = b7) _).setCell (p := ⟨b7, 0, none⟩) rfl _).setCell (p := ⟨b7, 1, none⟩) rfl _)
                    have HB3N := Lib.hid (HB3.out.only HOS.out (fun e => HNE.out.1 e))
                    have HB5N := Lib.hid (HB5.out.only HOS.out (fun e => HNE.out.2.1 e))
                    have HON := Lib.hid (HO.out.trans (HOS.out.mono fun j hj => by subst hj; exact HNE.out.2.2))
                    go_roundg (m - (k + 1))
                    case measure => omega
                    case rel => exact ⟨k + 1, true, P, yl, p, some y, false, rfl, by omega, rfl, by go_num, rfl, HB3N, HB5N, HBN, HON, HYS, Lib.hid (HKK.out.trans (by rw [HRC.out]; exact ⟨fun h => h.2, fun h => ⟨⟨(fun b hb => by cases hb; rw [HV1.out]; exact (fun h => h.elim (fun h => absurd h (by omega)) (fun h => nomatch h.2))), (fun b hb => by cases hb; rw [HV2.out]; have := HV2L.out; omega)⟩, h⟩⟩))⟩
            · have HV1L : Hid (0 < v1) := Lib.hid (by omega)
              cases hi with
              | none =>
                obtain rfl : hb = false := HHB.out
                go_wp2_with (go_at_call 20; (with_reducible refine (rCompare_b _ (.slice P yl p) (.slice LA lan lac) y la _ (HYS.out.later HO.out) (HLA.out.later HO.out) HV1.out).mono ?_); rintro ee w3 ⟨rfl, ho⟩; replace HB3 := Lib.hid (HB3.out.later ho); replace HB5 := Lib.hid (HB5.out.later ho); replace HB7 := Lib.hid (HB7.out.later ho); replace HO := Lib.hid (on_new HO.out ho); clear c0 c1 c2 d0 d1 e0 e1 f0 f1; (obtain ⟨c0, c1, c2⟩ := HB3.out.tri); (obtain ⟨d0, d1⟩ := two_cells HB5.out); (obtain ⟨e0, e1⟩ := two_cells HB7.out); (have f0 := HB7.out.frozen 0); (have f1 := HB7.out.frozen 1); clear ho)
                have HBN := Lib.hid ((HB7.out.set_ 0 (.bool true)).set_ 1 (.slice P yl p))
                have HOS : Hid (Only (fun j => j = b7) w3 ((w3.setCell ⟨b7, 0, none⟩ (.bool true)).setCell ⟨b7, 1, none⟩ (.slice P yl p))) := Lib.hid (((Only.refl (fun j => j = b7) _).setCell (p := ⟨b7, 0, none⟩) rfl _).setCell (p := ⟨b7, 1, none⟩) rfl _)
                have HB3N := Lib.hid (HB3.out.only HOS.out (fun e => HNE.out.1 e))
                have HB5N := Lib.hid (HB5.out.only HOS.out (fun e => HNE.out.2.1 e))
                have HON := Lib.hid (HO.out.trans (HOS.out.mono fun j hj => by subst hj; exact HNE.out.2.2))
                go_roundg (m - (k + 1))
                case measure => omega
                case rel => exact ⟨k + 1, true, P, yl, p, some y, false, rfl, by omega, rfl, by go_num, rfl, HB3N, HB5N, HBN, HON, HYS, Lib.hid (HKK.out.trans (by rw [HRC.out]; exact ⟨fun h => h.2, fun h => ⟨⟨(fun b hb => by cases hb; rw [HV1.out]; have := HV1L.out; exact (fun h => h.elim (fun h => by omega) (fun h => by have := h.1; omega))), (fun b hb => nomatch hb)⟩, h⟩⟩))⟩
              | some hk =>
                obtain rfl : hb = true := HHB.out
                have HHI : Hid (Src w (.slice H hn hc) hk) := HHI0
                obtain ⟨v2, hv2⟩ : ∃ v, cmp y hk = v := ⟨_, rfl⟩
                have HV2 := Lib.hid hv2
                clear hv2
                by_cases h3 : (0 : Int) ≤ v2
                · have HV2L := Lib.hid h3
                  go_wp2_with (first | (go_at_call 20; (with_reducible refine (rCompare_b _ (.slice P yl p) (.slice LA lan lac) y la _ (HYS.out.later HO.out) (HLA.out.later HO.out) HV1.out).mono ?_); rintro ee w3 ⟨rfl, ho⟩; replace HB3 := Lib.hid (HB3.out.later ho); replace HB5 := Lib.hid (HB5.out.later ho); replace HB7 := Lib.hid (HB7.out.later ho); replace HO := Lib.hid (on_new HO.out ho); clear c0 c1 c2 d0 d1 e0 e1 f0 f1; (obtain ⟨c0, c1, c2⟩ := HB3.out.tri); (obtain ⟨d0, d1⟩ := two_cells HB5.out); (obtain ⟨e0, e1⟩ := two_cells HB7.out); (have f0 := HB7.out.frozen 0); (have f1 := HB7.out.frozen 1); clear ho) | (go_at_call 20; (with_reducible refine (rCompare_b _ (.slice P yl p) (.slice H hn hc) y hk _ (HYS.out.later HO.out) (HHI.out.later HO.out) HV2.out).mono ?_); rintro ee w4 ⟨rfl, ho⟩; replace HB3 := Lib.hid (HB3.out.later ho); replace HB5 := Lib.hid (HB5.out.later ho); replace HB7 := Lib.hid (HB7.out.later ho); replace HO := Lib.hid (on_new HO.out ho); clear c0 c1 c2 d0 d1 e0 e1 f0 f1; (obtain ⟨c0, c1, c2⟩ := HB3.out.tri); (obtain ⟨d0, d1⟩ := two_cells HB5.out); (obtain ⟨e0, e1⟩ := two_cells HB7.out); (have f0 := HB7.out.frozen 0); (have f1 := HB7.out.frozen 1); clear ho))
                  go_ret
                  exact ⟨⟨false, rfl, (fun h => nomatch h), fun h => by have := HKK.out.1 h; rw [HRC.out] at this; exact absurd (by rw [HV2.out]; exact HV2L.out) (this.1.2 hk rfl)⟩, HO.out⟩
                · have HV2L : Hid (v2 < 0) := Lib.hid (by omega)
                  go_wp2_with (first | (go_at_call 20; (with_reducible refine (rCompare_b _ (.slice P yl p) (.slice LA lan lac) y la _ (HYS.out.later HO.out) (HLA.out.later HO.out) HV1.out).mono ?_); rintro ee w3 ⟨rfl, ho⟩; replace HB3 := Lib.hid (HB3.out.later ho); replace HB5 := Lib.hid (HB5.out.later ho); replace HB7 := Lib.hid (HB7.out.later ho); replace HO := Lib.hid (on_new HO.out ho); clear c0 c1 c2 d0 d1 e0 e1 f0 f1; (obtain ⟨c0, c1, c2⟩ := HB3.out.tri); (obtain ⟨d0, d1⟩ := two_cells HB5.out); (obtain ⟨e0, e1⟩ := two_cells HB7.out); (have f0 := HB7.out.frozen 0); (have f1 := HB7.out.frozen 1); clear ho) | (go_at_call 20; (with_reducible refine (rCompare_b _ (.slice P yl p) (.slice H hn hc) y hk _ (HYS.out.later HO.out) (HHI.out.later HO.out) HV2.out).mono ?_); rintro ee w4 ⟨rfl, ho⟩; replace HB3 := Lib.hid (HB3.out.later ho); replace HB5 := Lib.hid (HB5.out.later ho); replace HB7 := Lib.hid (HB7.out.later ho); replace HO := Lib.hid (on_new HO.out ho); clear c0 c1 c2 d0 d1 e0 e1 f0 f1; (obtain ⟨c0, c1, c2⟩ := HB3.out.tri); (obtain ⟨d0, d1⟩ := two_cells HB5.out); (obtain ⟨e0, e1⟩ := two_cells HB7.out); (have f0 := HB7.out.frozen 0); (have f1 := HB7.out.frozen 1); clear ho))
                  have HBN := Lib.hid ((HB7.out.set_ 0 (.bool true)).set_ 1 (.slice P yl p))
                  have HOS : Hid (Only (fun j => j = b7) w4 ((w4.setCell ⟨b7, 0, none⟩ (.bool true)).setCell ⟨b7, 1, none⟩ (.slice P yl p))) := Lib.hid (((Only.refl (fun j => j = b7) _).setCell (p := ⟨b7, 0, none⟩) rfl _).setCell (p := ⟨b7, 1, none⟩) rfl _)
                  have HB3N := Lib.hid (HB3.out.only HOS.out (fun e => HNE.out.1 e))
                  have HB5N := Lib.hid (HB5.out.only HOS.out (fun e => HNE.out.2.1 e))
                  have HON := Lib.hid (HO.out.trans (HOS.out.mono fun j hj => by subst hj; exact HNE.out.2.2))
                  go_roundg (m - (k + 1))
                  case measure => omega
                  case rel => exact ⟨k + 1, true, P, yl, p, some y, false, rfl, by omega, rfl, by go_num, rfl, HB3N, HB5N, HBN, HON, HYS, Lib.hid (HKK.out.trans (by rw [HRC.out]; exact ⟨fun h => h.2, fun h => ⟨⟨(fun b hb => by cases hb; rw [HV1.out]; have := HV1L.out; exact (fun h => h.elim (fun h => by omega) (fun h => by have := h.1; omega))), (fun b hb => by cases hb; rw [HV2.out]; have := HV2L.out; omega)⟩, h⟩⟩))⟩
      · obtain rfl : k = m := by omega
        have hkm : ¬ (k : Int) < (k : Int) := by omega
        have HRE : Hid (restK x k = []) := Lib.hid (rest_end (Nat.le_of_eq HMM.out))
        go_wp2_with (go_at_call 29; (have hc := DMany_c _ false A B _ _ _ _ x (HND.out.later HO.out)); rw [HMM.out] at hc; (with_reducible refine hc.mono ?_); rintro ee w2 ⟨rfl, ho⟩; clear hc; replace HB3 := Lib.hid (HB3.out.later ho); replace HB5 := Lib.hid (HB5.out.later ho); replace HB7 := Lib.hid (HB7.out.later ho); replace HO := Lib.hid (on_new HO.out ho); clear c0 c1 c2 d0 d1 e0 e1 f0 f1; (obtain ⟨c0, c1, c2⟩ := HB3.out.tri); (obtain ⟨d0, d1⟩ := two_cells HB5.out); (obtain ⟨e0, e1⟩ := two_cells HB7.out); (have f0 := HB7.out.frozen 0); (have f1 := HB7.out.frozen 1); clear ho)
        go_ret
        exact ⟨⟨true, rfl, fun _ => HKK.out.2 (by rw [HRE.out]; trivial), fun _ => rfl⟩, HO.out⟩
end Go.Proofs.Ytdpdlhfjemehcaa
