/-
  Several texts, as one.
-/
import Derived.Test.YtbgnfocfnjlabaaDoorGj
import Derived.Test.YtbgnfocfnjlabaaDoorOmw
import Derived.Test.YtbgnfocfnjlabaaDoorGf
import Derived.Test.YtbgnfocfnjlabaaDoorObk
import Derived.Test.YtbgnfocfnjlabaaDoorGb
/-
  The document's Encode: nothing, or a chain.
-/
set_option linter.unusedVariables false
namespace Go.Proofs.YtbgnfocfnjlabaaDoor
open Go.RowKit

theorem manyP_pos {g : Int} {n : Nat} (h : manyP g n ≠ 0) : 0 < manyP g n := by
  have hm : ¬ ((n : Int) ≤ 32 ∨ tr g 400 800 1600 < (n : Int)) := fun hm => h (manyP_no hm)
  have e := manyP_of hm
  rcases manyP_gen hm with hg | hg | hg <;> subst hg <;> simp only [tr, reduceIte, Int.reduceEq] at hm e <;> omega
theorem doc_ok (g : Int) (n : Nat) (l : List Int) : (mayD g l && decide (0 < manyP g n ∧ manyP g n = (l.length : Int))) = encOk g n l := by
  unfold encOk
  by_cases h : manyP g n = 0
  · rw [decide_eq_false (p := 0 < manyP g n ∧ _) (by omega), decide_eq_false (p := manyP g n ≠ 0 ∧ _) (fun h2 => h2.1 h), Bool.and_false, Bool.false_and]
  · have hp := manyP_pos h
    have hgs : g = 1 ∨ g = 2 ∨ g = 3 := manyP_gen fun hm => h (manyP_no hm)
    rw [mayD_eq hgs, Bool.and_comm]
    congr 1
    rw [decide_eq_decide]
    omega
theorem linksB_flat (g : Int) (v : Bytes) (m : Nat) (l : List Int) (k : Nat) : (linksB g v m l (List.range (k + 1))).flatten = (linksB g v m l (List.range k)).flatten ++ linkB g v m l k k := by
  rw [linksB_range, linksB_range, List.range_succ, List.map_append, List.flatten_append]
  simp
/-- What stands in a page of a chain: one that is not the last; the last. -/
theorem link_mid {g : Int} {v : Bytes} {m k q : Nat} {l : List Int} {x : Int} (hq : q = (v.length + m - 1) / m) (hm : 1 ≤ m) (hk : k + 1 < q) (hl : l.length = q) (hx : l[k + 1]? = some x) : linkB g v m l k k = wrapB 79 g (m : Nat) x ((v.drop (k * m)).take m) ∧ (k + 1) * m < v.length := by
  have h1 : ¬ v.length ≤ (k + 1) * m := fun h => by
    have : (v.length + m - 1) / m ≤ k + 1 := by
      rw [Nat.div_le_iff_le_mul (by omega)]
      omega
    omega
  have hs : (k + 1) * m = k * m + m := Nat.succ_mul k m
  refine ⟨?_, by omega⟩
  unfold linkB chunkB chk
  rw [nextOf_get (by omega)] at hx
  rw [Option.some.inj hx, Nat.min_eq_left (by omega)]
theorem link_end {g : Int} {v : Bytes} {m k q : Nat} {l : List Int} (hq : q = (v.length + m - 1) / m) (hm : 1 ≤ m) (hk : k + 1 = q) (hl : l.length = q) : linkB g v m l k k = wrapB 79 g ((v.length - k * m : Nat)) 0 ((v.drop (k * m)).take (v.length - k * m)) ∧ k * m < v.length ∧ v.length ≤ (k + 1) * m := by
  have hs : (k + 1) * m = k * m + m := Nat.succ_mul k m
  have hd := Nat.div_add_mod (v.length + m - 1) m
  have hlt := Nat.mod_lt (v.length + m - 1) (show 0 < m by omega)
  rw [← hq, ← hk] at hd
  have hc : m * (k + 1) = (k + 1) * m := Nat.mul_comm _ _
  have hn : nextOf l k = 0 := by
    unfold nextOf
    rw [List.getD_eq_getElem?_getD, List.getElem?_append_right (by rw [List.length_drop]; omega), List.length_drop, show k - (l.length - 1) = 0 by omega]
    rfl
  refine ⟨?_, by omega, by omega⟩
  unfold linkB chunkB chk
  rw [hn, Nat.min_eq_right (by omega), List.take_of_length_le (i := m) (by rw [List.length_drop]; omega), List.take_of_length_le (by rw [List.length_drop]; omega)]
theorem src_rest {w : World} {b off n c k : Nat} {xs : Bytes} (h : Src w (.slice (some ⟨b, off, none⟩) n c) xs) (hk : k ≤ n) : Src w (.slice (some ⟨b, off + k, none⟩) (n - k) (c - k)) (xs.drop k) ∧ (c = k → Src w (.slice (some ⟨b, off, none⟩) (n - k) (c - k)) (xs.drop k)) := by
  have hn : n = xs.length := by
    obtain ⟨A', c', e, _⟩ := h
    simp only [Value.slice.injEq] at e
    exact e.2.1
  have hc : n ≤ c ∧ c ≤ 9223372036854775807 := by
    obtain ⟨A', c', e, _, _, h4, h5⟩ := h
    simp only [Value.slice.injEq] at e
    obtain ⟨_, e2, rfl⟩ := e
    exact ⟨by omega, h5⟩
  constructor
  · have := src_wino (i := k) (k := n - k) h (by omega) (by omega)
    rwa [List.take_of_length_le (by rw [List.length_drop]; omega)] at this
  · intro e
    have hz : xs.drop k = [] := List.drop_eq_nil_of_le (by omega)
    rw [hz, show n - k = 0 by omega, show c - k = 0 by omega]
    exact ⟨_, 0, rfl, ⟨rfl, fun h => absurd h (by decide)⟩, (fun e => by cases e), Nat.le_refl _, by omega⟩
theorem chain_len {w : World} {XA : Option Addr} {xn xc k m q : Nat} {v : Bytes} (h : Src w (.slice XA xn xc) (v.drop (k * m))) (hq : q = (v.length + m - 1) / m) (hm : 1 ≤ m) (hk : k < q) : xn = v.length - k * m ∧ 0 < xn := by
  have e : xn = v.length - k * m := by
    obtain ⟨A', c', e, _⟩ := h
    simp only [Value.slice.injEq] at e
    rw [e.2.1, List.length_drop]
  have h1 : (k + 1) * m ≤ v.length + m - 1 := (Nat.le_div_iff_mul_le (by omega)).1 (by omega)
  have h2 : (k + 1) * m = k * m + m := Nat.succ_mul k m
  omega
theorem chain_mid {xn k m n : Nat} (h : xn = n - k * m) (h1 : (k + 1) * m < n) : m ≤ xn := by
  have h2 : (k + 1) * m = k * m + m := Nat.succ_mul k m
  omega
theorem chain_last {xn k m : Nat} {v : Bytes} (h : xn = v.length - k * m) (h1 : k * m < v.length) (h2 : v.length ≤ (k + 1) * m) : (v.drop (k * m)).drop xn = v.drop ((k + 1) * m) := by
  rw [List.drop_eq_nil_of_le (by rw [List.length_drop]; omega), List.drop_eq_nil_of_le h2]
theorem Row8.upto_ {w w' : World} {B : Nat} {v : Value} {xs : Bytes} (h : Row8 w B v xs) (ho : Only (w.heap.size ≤ ·) w w') : Row8 w' B v xs := ids_keep h ho fun k e => by have := (World.ownsRow.lt h k e).2; omega
section
variable (w : World) (g : Int) (A UA : Option Addr) (n c q uc : Nat) (v : Bytes) (l : List Int)
set_option maxRecDepth 100000 in
set_option maxHeartbeats 1600000 in
theorem OrEncode_no (hu : Ints w (.slice UA q uc) l) (hq : l.length ≤ 1000) (h : encOk g n l = false) :
    Calls Tryd.prog 33 #[.int .i64 g, .slice A n c, .slice UA q uc] w fun e w' => e = .returned (.tuple #[.slice none 0 0, .int .i64 1]) ∧ Only (w.heap.size ≤ ·) w w' := by
  have HMY : Hid (∀ W, Calls Tryd.prog 11 #[.int .i64 g, .int .i64 (n : Nat)] W fun e w' => e = .returned (.int .i64 (manyP g n)) ∧ W = w') := Lib.hid fun W => rMany_c W g n
  have HMA : Hid (Calls Tryd.prog 58 #[.int .i64 g, .slice UA q uc, .int .i64 (manyP g n)] w (Told w (.bool false))) := Lib.hid (by rw [← h, ← doc_ok g n l]; exact OrMay_c w g _ l _ hu hq)
  obtain ⟨z, hz⟩ : ∃ z, z = manyP g n := ⟨_, rfl⟩
  rw [← hz] at HMY HMA
  clear hz hu h
  go_enter Tryd.func33, Tryd.ntmps33
  go_wp2_with (first | (go_at_call 11; (with_reducible refine (HMY.out _).mono ?_); rintro ee w1 ⟨rfl, rfl⟩) | (go_at_call 58; (with_reducible refine HMA.out.mono ?_); rintro ee w2 ⟨rfl, ho⟩; have HO := Lib.hid ho; clear ho))
  go_ret2
  exact ⟨rfl, HO.out⟩
set_option maxRecDepth 100000 in
set_option maxHeartbeats 6400000 in
theorem OrEncode_chain (m : Nat) (hg : g = 1 ∨ g = 2) (hm : (m : Int) = tr g 248 240 240) (hv : Src w (.slice A n c) v) (hu : Ints w (.slice UA q uc) l) (h : encOk g n l = true) :
    Calls Tryd.prog 33 #[.int .i64 g, .slice A n c, .slice UA q uc] w fun e w' => ∃ r, e = .returned (.tuple #[r, .int .i64 0]) ∧ Row8 w' w.heap.size r (linksB g v m l (List.range q)).flatten ∧ Only (w.heap.size ≤ ·) w w' := by
  have hql := hu.len
  have h' := h
  unfold encOk at h'
  simp only [Bool.and_eq_true, decide_eq_true_eq] at h'
  obtain ⟨⟨hz, hlen⟩, hmay⟩ := h'
  obtain ⟨hn32, hn800, hmq, hq1⟩ := manyP_chain hg hm hz
  have hnv : n = v.length := by
    obtain ⟨A', c', e, _⟩ := hv
    simp only [Value.slice.injEq] at e
    exact e.2.1
  have hqm : q = (v.length + m - 1) / m := by rw [← hnv]; omega
  have h7 : q ≤ 7 := manyP_7 (g := g) (n := n) (M := q) (by omega)
  have hm1 : 1 ≤ m ∧ m ≤ 248 := by rcases hg with rfl | rfl <;> simp only [tr, reduceIte, Int.reduceEq] at hm <;> omega
  have HMY : Hid (∀ W, Calls Tryd.prog 11 #[.int .i64 g, .int .i64 (n : Nat)] W fun e w' => e = .returned (.int .i64 (q : Nat)) ∧ W = w') := Lib.hid fun W => by have := rMany_c W g n; rwa [show manyP g n = (q : Int) by omega] at this
  have HMA : Hid (Calls Tryd.prog 58 #[.int .i64 g, .slice UA q uc, .int .i64 (q : Nat)] w (Told w (.bool true))) := Lib.hid (by
    have := OrMay_c w g _ l (manyP g n) hu (by omega)
    rwa [doc_ok g n l, h, show manyP g n = (q : Int) by omega] at this)
  have HCP : Hid (∀ W, Calls Tryd.prog 10 #[.int .i64 g] W fun e w' => e = .returned (.int .i64 (m : Nat)) ∧ W = w') := Lib.hid fun W => by have := rCap_c W g; rwa [← hm] at this
  have hg3 : ¬ g = 3 := by omega
  have hg3' : (g == 3) = false := by simpa using hg3
  have HU := Lib.hid hu
  have HI : Hid (∀ x ∈ l, I64 x) := Lib.hid fun x hx => by have := mayP_bound hmay x hx; constructor <;> omega
  have HV := Lib.hid hv
  have HQ := Lib.hid (And.intro hqm (And.intro hm1.1 (And.intro hql.symm (And.intro hm1.2 (And.intro h7 (And.intro hnv (And.intro hn800 hq1)))))))
  have HLEN : Hid (∀ k, k < q → (linksB g v m l (List.range k)).flatten.length + (linkB g v m l k k).length ≤ 100000000) := Lib.hid (by
    obtain ⟨gn, hgn⟩ : ∃ gn : Nat, g = (gn : Int) := ⟨g.toNat, by omega⟩
    subst hgn
    have hpg : ∀ k, (linkB gn v m l k k).length = 256 := fun k => (link_shape (g := gn) (m := m) (by omega) hm (mayP_bound hmay)).1.facts.1
    intro k hk
    rw [pgs_flat (fun p hp => by
      rw [linksB_range] at hp
      obtain ⟨j, _, rfl⟩ := List.mem_map.1 hp
      exact hpg j), linksB_len, hpg, List.length_range]
    omega)
  have HNV := Lib.hid hnv
  clear h hz hlen hmay hn32 hn800 hmq hqm hm1 hm hg hu hv hnv hq1 hql h7
  go_enter Tryd.func33, Tryd.ntmps33
  go_upto_region 12 with (first | (go_at_call 11; (with_reducible refine (HMY.out _).mono ?_); rintro ee w1 ⟨rfl, rfl⟩) | (go_at_call 58; (with_reducible refine HMA.out.mono ?_); rintro ee w2 ⟨rfl, ho⟩; have HO := Lib.hid ho; clear ho) | (go_at_call 10; (with_reducible refine (HCP.out _).mono ?_); rintro ee w3 ⟨rfl, rfl⟩))
  go_wp2_with (fail)
  go_loopw [1, 8, 11] (fun x y i wr => ∃ (k : Nat) (XA : Option Addr) (xn xc : Nat) , x = .slice XA xn xc ∧ i = .int .i64 k ∧ k ≤ q ∧ Hid (Src w (.slice XA xn xc) (v.drop (k * m))) ∧ Hid (Row8 wr w.heap.size y (linksB g v m l (List.range k)).flatten) ∧ Hid (Only (w.heap.size ≤ ·) w wr)) (fun _ _ i _ => q - (intOf i).toNat)
  case atStart => exact ⟨0, _, _, _, rfl, rfl, Nat.zero_le _, Lib.hid (by rw [Nat.zero_mul, List.drop_zero]; exact HV.out), Lib.hid (World.ownsRow_nil _ _ _ _), HO⟩
  case round =>
    obtain ⟨k, XA, xn, xc, rfl, rfl, hkq, HX, HR, HOk⟩ := hrel
    clear HO
    by_cases hlt : k < q
    · obtain ⟨hxn, hpos⟩ := chain_len HX.out HQ.out.1 HQ.out.2.1 hlt
      obtain ⟨b, off, rfl, hxl, hxc, hxm, hbs⟩ := src_form HX.out hpos
      clear hxl
      by_cases hl2 : k + 1 < q
      · obtain ⟨ub, uo, y0, rfl, hub, hy0, hcell⟩ := (HU.out.later HOk.out).at_ hl2
        have HLK := Lib.hid (link_mid (g := g) HQ.out.1 HQ.out.2.1 hl2 HQ.out.2.2.1 hy0)
        have HNX : Hid (I64 y0) := Lib.hid (HI.out y0 (List.mem_of_getElem? hy0))
        have hlm : m ≤ xn := chain_mid hxn HLK.out.2
        have HDR : Hid ((v.drop (k * m)).drop m = v.drop ((k + 1) * m)) := Lib.hid (by rw [List.drop_drop, Nat.succ_mul])
        have hl2i : (k : Int) + 1 < (q : Int) := by omega
        have HLE : Hid (m ≤ (v.drop (k * m)).length) := Lib.hid (by rw [List.length_drop, ← hxn]; exact hlm)
        have HLE2 : Hid (m ≤ xn) := Lib.hid hlm
        have hnc : (m : Int) ≤ (xc : Int) := by omega
        have hnc' : m ≤ xc := by omega
        have hn0 : (0 : Int) ≤ (m : Int) := by omega
        have hkq7 := HQ.out.2.2.2.2.1
        have HLN : Hid ((linksB g v m l (List.range k)).flatten.length + (linkB g v m l k k).length ≤ 100000000) := Lib.hid (HLEN.out k hlt)
        clear hxn
        by_cases hce : xc = m
        · have hce2 := hce.symm
          clear hce
          subst hce2
          have HXZ : Hid (xn - m = 0) := Lib.hid (Nat.sub_eq_zero_of_le hxc)
          obtain ⟨z, hz⟩ : ∃ z, z = wrapE 79 g (m : Nat) y0 ((v.drop (k * m)).take m) := ⟨_, rfl⟩
          have HWR : Hid (∀ W, Only (w.heap.size ≤ ·) w W → Calls Tryd.prog 60 #[.agg #[.int .i64 79, .int .i64 g, .int .i64 (m : Nat), .int .i64 y0], .slice (some ⟨b, off, none⟩) m m] W (GaveBE W (linkB g v m l k k) z)) := Lib.hid fun W hW => by
            rw [HLK.out.1, hz]
            exact rWrap_c W 79 g _ _ _ _ (src_cut (HX.out.later hW) HLE.out) HNX.out
          have HXN : Hid (Src w (.slice (some ⟨b, off, none⟩) (xn - m) (m - m)) (v.drop ((k + 1) * m))) := Lib.hid (by rw [← HDR.out]; exact (src_rest HX.out HLE2.out).2 rfl)
          clear hz
          go_wp2_with (first
            | (go_at_call 60; go_loud ((with_reducible refine (HWR.out wr HOk.out).mono ?_); rintro ee w3 ⟨bv, rfl, hb, ho⟩; have HB := Lib.hid hb; have HR2 : Hid (Row8 w3 w.heap.size u8 (linksB g v m l (List.range k)).flatten) := Lib.hid (HR.out.upto_ ho); have HO2 := Lib.hid (on_new HOk.out ho); clear hb ho))
            | (at_builtin; go_loud (refine wpList_bytes rfl (.tmp 86) (.tmp 87) rfl w.heap.size u8 bv (linksB g v m l (List.range k)).flatten (linkB g v m l k k) rfl HR2.out rfl HB.out HLN.out HO2.out.size ?_; intro v' w4 ho' hg' hat'; have HR4 : Hid (Row8 w4 w.heap.size v' (linksB g v m l (List.range (k + 1))).flatten) := Lib.hid (by rw [linksB_flat]; unfold Row8; rw [List.length_append, cb_append]; exact ho'); have HO4 : Hid (Only (w.heap.size ≤ ·) w w4) := Lib.hid (HO2.out.grown hg' (fun _ h => h) (fun k hk => (World.ownsRow.lt HR2.out k hk).1)); clear ho' hg' hat')))
          go_roundw
          case rel => exact ⟨k + 1, _, _, _, rfl, by go_num, hlt, Lib.hid (by first | exact HXN.out | simpa using HXN.out | (have h8 := HXN.out; rw [HXZ.out] at h8; simpa using h8)), HR4, HO4⟩
          case measure => (simp [intOf] <;> omega)
        · obtain ⟨z, hz⟩ : ∃ z, z = wrapE 79 g (m : Nat) y0 ((v.drop (k * m)).take m) := ⟨_, rfl⟩
          have HWR : Hid (∀ W, Only (w.heap.size ≤ ·) w W → Calls Tryd.prog 60 #[.agg #[.int .i64 79, .int .i64 g, .int .i64 (m : Nat), .int .i64 y0], .slice (some ⟨b, off, none⟩) m xc] W (GaveBE W (linkB g v m l k k) z)) := Lib.hid fun W hW => by
            rw [HLK.out.1, hz]
            exact rWrap_c W 79 g _ _ _ _ (src_cut (HX.out.later hW) HLE.out) HNX.out
          have HXN : Hid (Src w (.slice (some ⟨b, off + m, none⟩) (xn - m) (xc - m)) (v.drop ((k + 1) * m))) := Lib.hid (by rw [← HDR.out]; exact (src_rest HX.out HLE2.out).1)
          clear hz
          go_wp2_with (first
            | (go_at_call 60; go_loud ((with_reducible refine (HWR.out wr HOk.out).mono ?_); rintro ee w3 ⟨bv, rfl, hb, ho⟩; have HB := Lib.hid hb; have HR2 : Hid (Row8 w3 w.heap.size u8 (linksB g v m l (List.range k)).flatten) := Lib.hid (HR.out.upto_ ho); have HO2 := Lib.hid (on_new HOk.out ho); clear hb ho))
            | (at_builtin; go_loud (refine wpList_bytes rfl (.tmp 86) (.tmp 87) rfl w.heap.size u8 bv (linksB g v m l (List.range k)).flatten (linkB g v m l k k) rfl HR2.out rfl HB.out HLN.out HO2.out.size ?_; intro v' w4 ho' hg' hat'; have HR4 : Hid (Row8 w4 w.heap.size v' (linksB g v m l (List.range (k + 1))).flatten) := Lib.hid (by rw [linksB_flat]; unfold Row8; rw [List.length_append, cb_append]; exact ho'); have HO4 : Hid (Only (w.heap.size ≤ ·) w w4) := Lib.hid (HO2.out.grown hg' (fun _ h => h) (fun k hk => (World.ownsRow.lt HR2.out k hk).1)); clear ho' hg' hat')))
          go_roundw
          case rel => exact ⟨k + 1, _, _, _, rfl, by go_num, hlt, Lib.hid (by first | exact HXN.out | simpa using HXN.out | (have h8 := HXN.out; rw [HXZ.out] at h8; simpa using h8)), HR4, HO4⟩
          case measure => (simp [intOf] <;> omega)
      · have hl3 : k + 1 = q := by omega
        have HLK0 := link_end (g := g) (v := v) (l := l) HQ.out.1 HQ.out.2.1 hl3 HQ.out.2.2.1
        rw [← hxn] at HLK0
        have HLK := Lib.hid HLK0
        clear HLK0
        have HNX : Hid (I64 0) := Lib.hid ⟨by decide, by decide⟩
        have hlm : xn ≤ xn := Nat.le_refl _
        have HDR : Hid ((v.drop (k * m)).drop xn = v.drop ((k + 1) * m)) := Lib.hid (chain_last hxn HLK.out.2.1 HLK.out.2.2)
        have hl2i : ¬ (k : Int) + 1 < (q : Int) := by omega
        have HLE : Hid (xn ≤ (v.drop (k * m)).length) := Lib.hid (by rw [List.length_drop, ← hxn]; exact hlm)
        have HLE2 : Hid (xn ≤ xn) := Lib.hid hlm
        have hnc : (xn : Int) ≤ (xc : Int) := by omega
        have hnc' : xn ≤ xc := by omega
        have hn0 : (0 : Int) ≤ (xn : Int) := by omega
        have hkq7 := HQ.out.2.2.2.2.1
        have HLN : Hid ((linksB g v m l (List.range k)).flatten.length + (linkB g v m l k k).length ≤ 100000000) := Lib.hid (HLEN.out k hlt)
        clear hxn
        by_cases hce : xc = xn
        · have hce2 := hce.symm
          clear hce
          subst hce2
          have HXZ : Hid (xn - xn = 0) := Lib.hid (Nat.sub_eq_zero_of_le hxc)
          obtain ⟨z, hz⟩ : ∃ z, z = wrapE 79 g (xn : Nat) 0 ((v.drop (k * m)).take xn) := ⟨_, rfl⟩
          have HWR : Hid (∀ W, Only (w.heap.size ≤ ·) w W → Calls Tryd.prog 60 #[.agg #[.int .i64 79, .int .i64 g, .int .i64 (xn : Nat), .int .i64 0], .slice (some ⟨b, off, none⟩) xn xn] W (GaveBE W (linkB g v m l k k) z)) := Lib.hid fun W hW => by
            rw [HLK.out.1, hz]
            exact rWrap_c W 79 g _ _ _ _ (src_cut (HX.out.later hW) HLE.out) HNX.out
          have HXN : Hid (Src w (.slice (some ⟨b, off, none⟩) (xn - xn) (xn - xn)) (v.drop ((k + 1) * m))) := Lib.hid (by rw [← HDR.out]; exact (src_rest HX.out HLE2.out).2 rfl)
          clear hz
          go_wp2_with (first
            | (go_at_call 60; go_loud ((with_reducible refine (HWR.out wr HOk.out).mono ?_); rintro ee w3 ⟨bv, rfl, hb, ho⟩; have HB := Lib.hid hb; have HR2 : Hid (Row8 w3 w.heap.size u8 (linksB g v m l (List.range k)).flatten) := Lib.hid (HR.out.upto_ ho); have HO2 := Lib.hid (on_new HOk.out ho); clear hb ho))
            | (at_builtin; go_loud (refine wpList_bytes rfl (.tmp 86) (.tmp 87) rfl w.heap.size u8 bv (linksB g v m l (List.range k)).flatten (linkB g v m l k k) rfl HR2.out rfl HB.out HLN.out HO2.out.size ?_; intro v' w4 ho' hg' hat'; have HR4 : Hid (Row8 w4 w.heap.size v' (linksB g v m l (List.range (k + 1))).flatten) := Lib.hid (by rw [linksB_flat]; unfold Row8; rw [List.length_append, cb_append]; exact ho'); have HO4 : Hid (Only (w.heap.size ≤ ·) w w4) := Lib.hid (HO2.out.grown hg' (fun _ h => h) (fun k hk => (World.ownsRow.lt HR2.out k hk).1)); clear ho' hg' hat')))
          go_roundw
          case rel => exact ⟨k + 1, _, _, _, rfl, by go_num, hlt, Lib.hid (by first | exact HXN.out | simpa using HXN.out | (have h8 := HXN.out; rw [HXZ.out] at h8; simpa using h8)), HR4, HO4⟩
          case measure => (simp [intOf] <;> omega)
        · obtain ⟨z, hz⟩ : ∃ z, z = wrapE 79 g (xn : Nat) 0 ((v.drop (k * m)).take xn) := ⟨_, rfl⟩
          have HWR : Hid (∀ W, Only (w.heap.size ≤ ·) w W → Calls Tryd.prog 60 #[.agg #[.int .i64 79, .int .i64 g, .int .i64 (xn : Nat), .int .i64 0], .slice (some ⟨b, off, none⟩) xn xc] W (GaveBE W (linkB g v m l k k) z)) := Lib.hid fun W hW => by
            rw [HLK.out.1, hz]
            exact rWrap_c W 79 g _ _ _ _ (src_cut (HX.out.later hW) HLE.out) HNX.out
          have HXN : Hid (Src w (.slice (some ⟨b, off + xn, none⟩) (xn - xn) (xc - xn)) (v.drop ((k + 1) * m))) := Lib.hid (by rw [← HDR.out]; exact (src_rest HX.out HLE2.out).1)
          clear hz
          go_wp2_with (first
            | (go_at_call 60; go_loud ((with_reducible refine (HWR.out wr HOk.out).mono ?_); rintro ee w3 ⟨bv, rfl, hb, ho⟩; have HB := Lib.hid hb; have HR2 : Hid (Row8 w3 w.heap.size u8 (linksB g v m l (List.range k)).flatten) := Lib.hid (HR.out.upto_ ho); have HO2 := Lib.hid (on_new HOk.out ho); clear hb ho))
            | (at_builtin; go_loud (refine wpList_bytes rfl (.tmp 86) (.tmp 87) rfl w.heap.size u8 bv (linksB g v m l (List.range k)).flatten (linkB g v m l k k) rfl HR2.out rfl HB.out HLN.out HO2.out.size ?_; intro v' w4 ho' hg' hat'; have HR4 : Hid (Row8 w4 w.heap.size v' (linksB g v m l (List.range (k + 1))).flatten) := Lib.hid (by rw [linksB_flat]; unfold Row8; rw [List.length_append, cb_append]; exact ho'); have HO4 : Hid (Only (w.heap.size ≤ ·) w w4) := Lib.hid (HO2.out.grown hg' (fun _ h => h) (fun k hk => (World.ownsRow.lt HR2.out k hk).1)); clear ho' hg' hat')))
          go_roundw
          case rel => exact ⟨k + 1, _, _, _, rfl, by go_num, hlt, Lib.hid (by first | exact HXN.out | simpa using HXN.out | (have h8 := HXN.out; rw [HXZ.out] at h8; simpa using h8)), HR4, HO4⟩
          case measure => (simp [intOf] <;> omega)
    · obtain rfl : q = k := by omega
      clear hlt hkq
      go_wp2
      go_ret2
      exact ⟨_, rfl, HR.out, HOk.out⟩
end
end Go.Proofs.YtbgnfocfnjlabaaDoor

/-
  The document's Encode: an extent.
-/
set_option linter.unusedVariables false
namespace Go.Proofs.YtbgnfocfnjlabaaDoor
open Go.RowKit

/-- What the document writes first. -/
def hdD (q n : Nat) : Bytes := extH q ++ ([0, 0, 0, 0] ++ le n 8)
theorem hdD_len (q n : Nat) : (hdD q n).length = 16 := by simp [hdD, extH, le_length]
theorem u8_of {x : Nat} (h : x < 256) : (((UInt8.ofNat x).toNat : Nat) : Int) = (x : Int) := by
  rw [UInt8.toNat_ofNat']
  omega
theorem hd_cells {q n : Nat} (hq : q < 256) (hn : n ≤ 1600) : cb (hdD q n) = [.int .u8 79, .int .u8 3, .int .u8 (q : Int), .int .u8 0, .int .u8 0, .int .u8 0, .int .u8 0, .int .u8 0, .int .u8 ((n : Int) % 256), .int .u8 ((n : Int) / 256), .int .u8 0, .int .u8 0, .int .u8 0, .int .u8 0, .int .u8 0, .int .u8 0] := by
  have e1 : le q 2 = [UInt8.ofNat q, UInt8.ofNat 0] := by
    rw [le_cons, le_cons, show q % 256 = q by omega, show q / 256 % 256 = 0 by omega]
    rfl
  have e2 : le n 8 = [UInt8.ofNat (n % 256), UInt8.ofNat (n / 256), 0, 0, 0, 0, 0, 0] := by
    rw [le_cons, le_cons, le_cons, le_cons, le_cons, le_cons, le_cons, le_cons, show n / 256 % 256 = n / 256 by omega, show n / 256 / 256 = 0 by omega]
    rfl
  unfold hdD extH cb
  rw [e1, e2]
  have h1 := u8_of (x := q) hq
  have h2 := u8_of (x := n % 256) (by omega)
  have h3 := u8_of (x := n / 256) (by omega)
  simp only [List.cons_append, List.nil_append, List.map_cons, List.map_nil, h1, h2, h3]
  have h4 : ((n % 256 : Nat) : Int) = (n : Int) % 256 := by omega
  have h5 : ((n / 256 : Nat) : Int) = (n : Int) / 256 := by omega
  rw [h4, h5]
  rfl
theorem ext_bytes {v : Bytes} {n q j yn : Nat} (hM : manyP 3 (v.length : Int) = (q : Int)) (h1 : 1 ≤ q) (hn : n = v.length) (hy : yn = 16 + n + j) (he : yn = 256 * q) : (hdD q n ++ v) ++ List.replicate j 0 = bareB v q := by
  obtain ⟨hb, _, _⟩ := ext_form hM h1
  rw [hb, hn]
  unfold hdD extY bodX
  rw [show q * 256 - 16 - v.length = j by omega]
  simp only [List.append_assoc]
theorem ap_seal {W : World} {B yn yc q : Nat} {YA : Option Addr} {v : Bytes} (h : Row8 W B (.slice YA yn yc) (bareB v q)) (he : yn = 256 * q) (h7 : q ≤ 7) : Calls Tryd.prog 59 #[.slice YA yn yc, .int .i64 4] W fun e w' => ∃ r, e = .returned r ∧ Src w' r (extE v q) ∧ Only (W.heap.size ≤ ·) W w' := by
  obtain ⟨A', c', e, ht, hA, hc, hm⟩ := h.src
  simp only [Value.slice.injEq] at e
  obtain ⟨rfl, e2, rfl⟩ := e
  rw [← e2] at ht
  refine (refSeal_c W YA yn yc (bareB v q) ht (fun e => ?_) (by omega) (by omega) hm 4 (by decide) (by decide)).mono fun e w' ⟨r, h1, h2, h3, h4⟩ => ⟨r, h1, ?_, h4⟩
  · have := hA e
    omega
  · exact Row8.src (b := W.heap.size) (by unfold Row8 extE; rw [h2]; exact h3)
section
variable (w : World) (A UA : Option Addr) (n c q uc : Nat) (v : Bytes) (l : List Int)
set_option maxRecDepth 100000 in
set_option maxHeartbeats 6400000 in
theorem OrEncode_ext (hv : Src w (.slice A n c) v) (hu : Ints w (.slice UA q uc) l) (h : encOk 3 n l = true) :
    Calls Tryd.prog 33 #[.int .i64 3, .slice A n c, .slice UA q uc] w fun e w' => ∃ r, e = .returned (.tuple #[r, .int .i64 0]) ∧ Src w' r (extE v q) ∧ Only (w.heap.size ≤ ·) w w' := by
  have hql := hu.len
  have h' := h
  unfold encOk at h'
  simp only [Bool.and_eq_true, decide_eq_true_eq] at h'
  obtain ⟨⟨hz, hlen⟩, hmay⟩ := h'
  have hq1 : 1 ≤ q := by have := manyP_pos hz; omega
  obtain ⟨h33, h1600, h7, hM, hM2⟩ := manyP_ext (n := n) (M := q) (by omega) hq1
  have hnv : n = v.length := by
    obtain ⟨A', c', e, _⟩ := hv
    simp only [Value.slice.injEq] at e
    exact e.2.1
  have HMY : Hid (∀ W, Calls Tryd.prog 11 #[.int .i64 3, .int .i64 (n : Nat)] W fun e w' => e = .returned (.int .i64 (q : Nat)) ∧ W = w') := Lib.hid fun W => by have := rMany_c W 3 n; rwa [show manyP 3 n = (q : Int) by omega] at this
  have HMA : Hid (Calls Tryd.prog 58 #[.int .i64 3, .slice UA q uc, .int .i64 (q : Nat)] w (Told w (.bool true))) := Lib.hid (by
    have := OrMay_c w 3 _ l (manyP 3 n) hu (by omega)
    rwa [doc_ok 3 n l, h, show manyP 3 n = (q : Int) by omega] at this)
  obtain ⟨f1, f2, f3, f4, f5, f6, f7⟩ := extE_facts (v := v) (M := q) (by rw [← hnv]; omega) hq1
  have HEX : Hid (manyP 3 (v.length : Int) = (q : Int)) := Lib.hid (by rw [← hnv]; omega)
  have HV := Lib.hid hv
  have HNV := Lib.hid hnv
  have q1 : (0 : Int) ≤ (q : Int) := by omega
  have q2 : (q : Int) < 256 := by omega
  have n1 : (n : Int) ≤ 1600 := by omega
  have HQ := Lib.hid (And.intro hM (And.intro h7 hq1))
  clear h hz hlen hmay hu hv hnv hql hM2
  go_enter Tryd.func33, Tryd.ntmps33
  go_upto_region 6 with (first | (go_at_call 11; (with_reducible refine (HMY.out _).mono ?_); rintro ee w1 ⟨rfl, rfl⟩) | (go_at_call 58; (with_reducible refine HMA.out.mono ?_); rintro ee w2 ⟨rfl, ho⟩; have HO := Lib.hid ho; clear ho))
  have HBz : Hid (∀ W : World, Src (W.alloc (.cells #[.int .u8 79, .int .u8 3, .int .u8 (q : Int), .int .u8 0, .int .u8 0, .int .u8 0, .int .u8 0, .int .u8 0, .int .u8 ((n : Int) % 256), .int .u8 ((n : Int) / 256), .int .u8 0, .int .u8 0, .int .u8 0, .int .u8 0, .int .u8 0, .int .u8 0] 5)) (.slice (some ⟨W.heap.size, 0, none⟩) 16 16) (hdD q n)) := Lib.hid fun W => blk_src (by rw [hd_cells (by omega) (by omega)]; exact Blk.new W 5 _) (hdD_len q n) (by decide)
  go_upto_region 7 with (at_builtin; go_loud (refine wpList_bytes rfl (.tmp 28) (.tmp 38) rfl w.heap.size (.slice none 0 0) (.slice (some ⟨w2.heap.size, 0, none⟩) 16 16) [] (hdD q n) rfl (World.ownsRow_nil _ _ _ _) rfl (HBz.out w2) (by rw [hdD_len]; decide) (HO.out.alloc (fun _ h => h) _).size ?_; intro v' w4 ho' hg' hat'; have HR4 : Hid (Row8 w4 w.heap.size v' (hdD q n)) := Lib.hid (by unfold Row8; have h9 := ho'; simp only [List.length_nil, Nat.zero_add] at h9; exact h9); have HO4 : Hid (Only (w.heap.size ≤ ·) w w4) := Lib.hid ((HO.out.alloc (fun _ h => h) _).grown hg' (fun _ h => h) (fun k hk => by cases hk)); clear ho' hg' hat'))
  go_upto_region 8 with (at_builtin; go_loud (refine wpList_bytes rfl (.tmp 40) (.tmp 41) rfl w.heap.size v' (.slice A n c) (hdD q n) v rfl HR4.out rfl (HV.out.later HO4.out) (by rw [hdD_len, ← HNV.out]; omega) HO4.out.size ?_; intro v5 w5 ho' hg' hat'; have HR5 : Hid (Row8 w5 w.heap.size v5 (hdD q n ++ v)) := Lib.hid (by unfold Row8; rw [List.length_append, cb_append]; exact ho'); have HO5 : Hid (Only (w.heap.size ≤ ·) w w5) := Lib.hid (HO4.out.grown hg' (fun _ h => h) (fun k hk => (World.ownsRow.lt HR4.out k hk).1)); clear ho' hg' hat'))
  have HL5 : Hid ((hdD q n ++ v).length = 16 + n) := Lib.hid (by rw [List.length_append, hdD_len, HNV.out])
  obtain ⟨g5, c5, rfl, hg5, hg5'⟩ := HR5.out.form (by rw [HL5.out]; omega)
  rw [HL5.out]
  clear hg5 hg5'
  go_loopw [8] (fun y wr => ∃ (j yn : Nat) (YA : Option Addr) (yc : Nat), y = .slice YA yn yc ∧ Hid (yn = 16 + n + j) ∧ yn ≤ 256 * q ∧ Hid (Row8 wr w.heap.size (.slice YA yn yc) ((hdD q n ++ v) ++ List.replicate j 0)) ∧ Hid (Only (w.heap.size ≤ ·) w wr)) (fun y _ => 256 * q - slLen y)
  case atStart =>
    refine ⟨0, 16 + n, _, _, rfl, Lib.hid rfl, by have := HQ.out; omega, Lib.hid ?_, HO5⟩
    have h9 := HR5.out
    rw [HL5.out] at h9
    simpa using h9
  case round =>
    obtain ⟨j, yn, YA, yc, rfl, HYN, hle, HR, HOk⟩ := hrel
    have h7q := HQ.out.2.1
    by_cases hlt : yn < 256 * q
    · have hti : (yn : Int) < 256 * (q : Int) := by omega
      have HLX : Hid (((hdD q n ++ v) ++ List.replicate j 0).length = yn) := Lib.hid (by rw [List.length_append, HL5.out, List.length_replicate, HYN.out])
      have HYN2 : Hid (yn + 1 = 16 + n + (j + 1)) := Lib.hid (by rw [HYN.out]; rfl)
      go_wp2_with (at_builtin; go_loud (refine wpList_bytes rfl (.tmp 49) (.tmp 50) rfl w.heap.size (.slice YA yn yc) (.slice (some ⟨wr.heap.size, 0, none⟩) 1 1) ((hdD q n ++ v) ++ List.replicate j 0) [0] rfl (HR.out.alloc _) rfl (blk_src (Blk.new wr 5 [.int .u8 0]) rfl (by decide)) (by rw [HLX.out]; simp only [List.length_cons, List.length_nil]; omega) (HOk.out.alloc (fun _ h => h) _).size ?_; intro v' w' ho' hg' hat'; have HR6 : Hid (Row8 w' w.heap.size v' ((hdD q n ++ v) ++ List.replicate (j + 1) 0)) := Lib.hid (by unfold Row8; rw [List.replicate_succ', ← List.append_assoc, List.length_append, cb_append]; exact ho'); have HO6 : Hid (Only (w.heap.size ≤ ·) w w') := Lib.hid ((HOk.out.alloc (fun _ h => h) _).grown hg' (fun _ h => h) (fun k hk => (World.ownsRow.lt HR.out k hk).1)); rw [HLX.out] at ho'; obtain ⟨g', c', rfl⟩ := ownsRow_succ ho'; clear ho' hg' hat'))
      go_roundw
      case rel => exact ⟨j + 1, _, _, _, rfl, HYN2, hlt, HR6, HO6⟩
      case measure => (simp [slLen] <;> omega)
    · have he : yn = 256 * q := by omega
      have HBB : Hid ((hdD q n ++ v) ++ List.replicate j 0 = bareB v q) := Lib.hid (ext_bytes HEX.out HQ.out.2.2 HNV.out HYN.out he)
      rw [HBB.out] at HR
      have HSE : Hid (Calls Tryd.prog 59 #[.slice YA yn yc, .int .i64 4] wr fun e w' => ∃ r, e = .returned r ∧ Src w' r (extE v q) ∧ Only (wr.heap.size ≤ ·) wr w') := Lib.hid (ap_seal HR.out he HQ.out.2.1)
      clear hle
      subst he
      go_wp2_with (go_at_call 59; go_loud ((with_reducible refine HSE.out.mono ?_); rintro ee w7 ⟨r, rfl, hr, ho⟩; have HRR := Lib.hid hr; have HO7 := Lib.hid (on_new HOk.out ho); clear hr ho))
      go_ret2
      exact ⟨r, rfl, HRR.out, HO7.out⟩
end
end Go.Proofs.YtbgnfocfnjlabaaDoor

/-
  The document's Encode, whole; two rows of bytes that grow side by side.
-/
set_option linter.unusedVariables false
namespace Go.Proofs.YtbgnfocfnjlabaaDoor
open Go.RowKit

set_option maxRecDepth 100000 in
set_option maxHeartbeats 400000 in
theorem rPage_x (w0 w : World) (A : Option Addr) (n c : Nat) (img : Bytes) (id : Int) (hv : Src w0 (.slice A n c) img) (hn : n ≤ 6000) :
    Calls Tryd.prog 14 #[.slice A n c, .int .i64 id] w fun e w' => ∃ v, e = .returned (.tuple #[v, .bool (pgOk img id)]) ∧ Src w0 v (pgB img id) ∧ w = w' := by
  have hnv : n = img.length := by
    obtain ⟨A', c', e, _⟩ := hv
    simp only [Value.slice.injEq] at e
    exact e.2.1
  by_cases a1 : id < 0
  · have HP : Hid (pgOk img id = false) := Lib.hid (decide_eq_false (by omega))
    have HB : Hid (pgB img id = []) := Lib.hid (by unfold pgB; rw [HP.out]; rfl)
    go_enter Tryd.func14, Tryd.ntmps14
    go_wp2
    go_ret2
    rw [HP.out, HB.out]
    exact ⟨_, rfl, Src.nil_ _, rfl⟩
  by_cases a2 : (n : Int) / 256 ≤ id
  · have HP : Hid (pgOk img id = false) := Lib.hid (decide_eq_false (by rw [← hnv]; omega))
    have HB : Hid (pgB img id = []) := Lib.hid (by unfold pgB; rw [HP.out]; rfl)
    go_enter Tryd.func14, Tryd.ntmps14
    go_wp2
    go_ret2
    rw [HP.out, HB.out]
    exact ⟨_, rfl, Src.nil_ _, rfl⟩
  obtain ⟨i, rfl⟩ : ∃ i : Nat, id = (i : Int) := ⟨id.toNat, by omega⟩
  have hlt : (i : Int) < (n : Int) / 256 := by omega
  have HP : Hid (pgOk img i = true) := Lib.hid (decide_eq_true (by rw [← hnv]; omega))
  have HB : Hid (pgB img i = (img.drop (i * 256)).take 256) := Lib.hid (by unfold pgB; rw [HP.out, if_pos rfl, Int.toNat_natCast])
  obtain ⟨b, off, rfl, hx1, hcn, hcm, hx2⟩ := src_form hv (by omega)
  clear hx1 hx2
  have hcc : ¬ c = 256 * i := by omega
  have b2 : 0 ≤ 256 * (i : Int) + 256 := by omega
  have b3 : 256 * (i : Int) + 256 ≤ (c : Int) := by omega
  have HR : Hid (Src w0 (.slice (some ⟨b, off + 256 * i, none⟩) 256 (c - 256 * i)) ((img.drop (i * 256)).take 256)) := Lib.hid (by
    have h := src_wino (i := 256 * i) (k := 256) hv (by omega) (by omega)
    rwa [Nat.mul_comm 256 i] at h ⊢)
  clear hnv hv hcn hcm hlt
  go_enter Tryd.func14, Tryd.ntmps14
  go_wp2
  go_ret2
  rw [HP.out, HB.out]
  exact ⟨_, rfl, HR.out, rfl⟩
theorem OrEncode_c (w : World) (g : Int) (A UA : Option Addr) (n c q uc : Nat) (v : Bytes) (l : List Int) (hv : Src w (.slice A n c) v) (hu : Ints w (.slice UA q uc) l) (hq : l.length ≤ 1000) :
    Calls Tryd.prog 33 #[.int .i64 g, .slice A n c, .slice UA q uc] w fun e w' => ∃ r, e = .returned (.tuple #[r, .int .i64 (if encOk g n l = true then 0 else 1)]) ∧ Src w' r (if encOk g n l = true then (encB g v l).flatten else []) ∧ Only (w.heap.size ≤ ·) w w' := by
  have hql := hu.len
  by_cases h : encOk g n l = true
  · rw [if_pos h, if_pos h]
    have h' := h
    unfold encOk at h'
    simp only [Bool.and_eq_true, decide_eq_true_eq] at h'
    obtain ⟨⟨hz, hlen⟩, hmay⟩ := h'
    have hgs : g = 1 ∨ g = 2 ∨ g = 3 := manyP_gen fun hm => hz (manyP_no hm)
    have hq1 : 1 ≤ q := by have := manyP_pos hz; omega
    by_cases hg : g = 3
    · subst hg
      have hnv : n = v.length := by
        obtain ⟨A', c', e, _⟩ := hv
        simp only [Value.slice.injEq] at e
        exact e.2.1
      obtain ⟨f1, _⟩ := extE_facts (v := v) (M := q) (by rw [← hnv]; omega) hq1
      have e : (encB 3 v l).flatten = extE v q := by unfold encB; rw [if_pos rfl, ← hql]; exact extB_flat f1
      rw [e]
      exact OrEncode_ext (w := w) (hv := hv) (hu := hu) (h := h)
    · have e : (encB g v l).flatten = (linksB g v (tr g 248 240 240).toNat l (List.range q)).flatten := by unfold encB; rw [if_neg hg, ← hql]
      rw [e]
      refine (OrEncode_chain (w := w) (m := (tr g 248 240 240).toNat) (hg := by omega) (hm := by rcases hgs with h | h | h <;> simp [h, tr]) (hv := hv) (hu := hu) (h := h)).mono fun e w' ⟨r, h1, h2, h3⟩ => ⟨r, h1, h2.src, h3⟩
  · have h0 : encOk g n l = false := by simpa using h
    rw [if_neg h, if_neg h]
    exact (OrEncode_no (w := w) (A := A) (c := c) (hu := hu) (hq := hq) (h := h0)).mono fun e w' ⟨h1, h2⟩ => ⟨_, h1, Src.nil_ _, h2⟩
/-- Two rows of bytes that grow. -/
structure Du (B : Nat) (W : World) (V U : Value) (x y : Bytes) : Prop where
  v : Row8 W B V x
  u : Row8 W B U y
  ap : ∀ b, V.ownBlock = some b → U.ownBlock ≠ some b
theorem Du.later {B : Nat} {W W' : World} {V U : Value} {x y : Bytes} (h : Du B W V U x y) (ho : Only (W.heap.size ≤ ·) W W') : Du B W' V U x y := ⟨h.v.upto_ ho, h.u.upto_ ho, h.ap⟩
theorem Du.push0 {B : Nat} {W W' : World} {V U V' : Value} {x y z : Bytes} (h : Du B W V U x y) (hr : Row8 W' B V' z) (hg : W.grownBy W' V.ownBlock) (hat : V'.ownBlock = V.ownBlock ∨ V'.ownBlock = some W.heap.size) : Du B W' V' U z y := by
  have hO : Only (fun k => V.ownBlock = some k ∨ W.heap.size ≤ k) W W' := (Only.refl _ W).grown hg (fun k hk => Or.inr hk) (fun k hk => Or.inl hk)
  refine ⟨hr, ids_keep h.u hO fun k e => fun hk => ?_, fun b e e2 => ?_⟩
  · rcases hk with hk | hk
    · exact h.ap k hk e
    · have := (World.ownsRow.lt h.u k e).2; omega
  · rcases hat with h1 | h1
    · exact h.ap b (h1.symm.trans e) e2
    · have h3 := (World.ownsRow.lt h.u b e2).2
      have h4 := Option.some.inj (h1.symm.trans e)
      omega
theorem Du.swap {B : Nat} {W : World} {V U : Value} {x y : Bytes} (h : Du B W V U x y) : Du B W U V y x := ⟨h.u, h.v, fun b e e2 => h.ap b e2 e⟩
theorem convert_src {w : World} {v : Value} {xs : Bytes} (h : Src w v xs) : (convert 27 9 v).run Tryd.prog w = .ok (.string ⟨xs.toArray⟩) w := by
  obtain ⟨A, c, rfl, ht, _⟩ := h
  exact convert_txt w A _ c xs ht
/-- What the document decodes. -/
def alD (img : Bytes) (l : List Int) : Bytes := l.flatMap (pgB img)
def vaD (img : Bytes) (g : Int) (l : List Int) : Bytes := if g = 3 then (alD img l).drop 16 else l.flatMap fun x => (pgB img x).drop (256 - (tr g 248 240 240).toNat)
def okD (img : Bytes) (id size : Int) : Bool := decide (hdE (pgB img id) = 0 ∧ manyP (hdG (pgB img id) : Nat) size ≠ 0) && ((idsD img (hdG (pgB img id) : Nat) id (manyP (hdG (pgB img id) : Nat) size).toNat).all (pgOk img) && (decide (size.toNat ≤ (vaD img (hdG (pgB img id) : Nat) (idsD img (hdG (pgB img id) : Nat) id (manyP (hdG (pgB img id) : Nat) size).toNat)).length) && (encOk (hdG (pgB img id) : Nat) size.toNat (idsD img (hdG (pgB img id) : Nat) id (manyP (hdG (pgB img id) : Nat) size).toNat) && decide ((encB (hdG (pgB img id) : Nat) ((vaD img (hdG (pgB img id) : Nat) (idsD img (hdG (pgB img id) : Nat) id (manyP (hdG (pgB img id) : Nat) size).toNat)).take size.toNat) (idsD img (hdG (pgB img id) : Nat) id (manyP (hdG (pgB img id) : Nat) size).toNat)).flatten = alD img (idsD img (hdG (pgB img id) : Nat) id (manyP (hdG (pgB img id) : Nat) size).toNat)))))
end Go.Proofs.YtbgnfocfnjlabaaDoor

/-
  The document's Decode.
-/
set_option linter.unusedVariables false
namespace Go.Proofs.YtbgnfocfnjlabaaDoor
open Go.RowKit

/-- The parts of what the document decodes. -/
theorem okD_iff {img : Bytes} {id size g : Int} {M N : Nat} {L : List Int} (h0 : hdE (pgB img id) = 0) (hg : g = (hdG (pgB img id) : Nat)) (hM : manyP g size = (M : Int)) (h1 : 1 ≤ M) (hN : N = size.toNat) (hL : L = idsD img g id M) :
    okD img id size = (L.all (pgOk img) && (decide (N ≤ (vaD img g L).length) && (encOk g N L && decide ((encB g ((vaD img g L).take N) L).flatten = alD img L)))) := by
  subst hg hN hL
  unfold okD
  rw [hM, Int.toNat_natCast, decide_eq_true (p := _ ∧ _) ⟨h0, by omega⟩, Bool.true_and]
theorem okD_head {img : Bytes} {id size : Int} (h : hdE (pgB img id) ≠ 0 ∨ manyP (hdG (pgB img id) : Nat) size = 0) : okD img id size = false := by
  unfold okD
  have h9 : decide (hdE (pgB img id) = 0 ∧ manyP (hdG (pgB img id) : Nat) size ≠ 0) = false := decide_eq_false fun h2 => by
    rcases h with h | h
    · exact h h2.1
    · exact h2.2 h
  rw [h9, Bool.false_and]
theorem idsD_len (img : Bytes) (g : Int) : ∀ (M : Nat) (id : Int), (idsD img g id M).length ≤ M
  | 0, _ => by simp [idsD]
  | M + 1, id => by
    rw [idsD]
    have h1 := idsD_len img g M (id + 1)
    have h2 := idsD_len img g M (hdX (pgB img id) : Nat)
    simp only [List.length_cons]
    split
    · omega
    · split
      · omega
      · simp
theorem take_snoc {L : List Int} {k : Nat} {x : Int} (h : L[k]? = some x) : L.take (k + 1) = L.take k ++ [x] := by rw [List.take_add_one, h]; rfl
theorem alD_snoc {img : Bytes} {L : List Int} {k : Nat} {x : Int} (h : L[k]? = some x) : alD img (L.take (k + 1)) = alD img (L.take k) ++ pgB img x := by rw [take_snoc h]; simp [alD]
theorem alD_len {img : Bytes} : ∀ {L : List Int}, (∀ x ∈ L, pgOk img x = true) → (alD img L).length = L.length * 256
  | [], _ => rfl
  | x :: L, h => by
    have h1 := h x (List.mem_cons_self ..)
    have h2 : (pgB img x).length = 256 := by
      unfold pgB
      rw [if_pos h1, List.length_take, List.length_drop]
      have := of_decide_eq_true h1
      omega
    have := alD_len (L := L) fun y hy => h y (List.mem_cons_of_mem _ hy)
    simp only [alD, List.flatMap_cons, List.length_append, List.length_cons] at this ⊢
    rw [this, h2]
    omega
theorem many_gen {g : Int} {n : Int} (h : manyP g n ≠ 0) : (g = 1 ∨ g = 2 ∨ g = 3) ∧ 33 ≤ n ∧ n ≤ 1600 ∧ 0 < manyP g n ∧ manyP g n ≤ 7 := by
  have hm : ¬ (n ≤ 32 ∨ tr g 400 800 1600 < n) := fun hm => h (manyP_no hm)
  have e := manyP_of hm
  refine ⟨manyP_gen hm, ?_⟩
  rcases manyP_gen hm with hg | hg | hg <;> subst hg <;> simp only [tr, reduceIte, Int.reduceEq] at hm e <;> omega
theorem pgB_256 {img : Bytes} {x : Int} (h1 : pgOk img x = true) : (pgB img x).length = 256 := by
  unfold pgB
  rw [if_pos h1, List.length_take, List.length_drop]
  have := of_decide_eq_true h1
  omega
theorem all_snoc {img : Bytes} {L : List Int} {k : Nat} {x : Int} (hx : L[k]? = some x) (h : ∀ y ∈ L.take k, pgOk img y = true) (hp : pgOk img x = true) : ∀ y ∈ L.take (k + 1), pgOk img y = true := by
  rw [take_snoc hx]
  intro y hy
  rcases List.mem_append.1 hy with h1 | h1
  · exact h y h1
  · rw [List.mem_singleton.1 h1]; exact hp
theorem all_no {img : Bytes} {L : List Int} {k : Nat} {x : Int} (hx : L[k]? = some x) (hp : ¬ pgOk img x = true) : L.all (pgOk img) = false := by
  rw [← Bool.not_eq_true, List.all_eq_true]
  exact fun h => hp (h x (List.mem_of_getElem? hx))
theorem al_bound {img : Bytes} {L : List Int} {k q : Nat} {x : Bytes} (h : ∀ y ∈ L.take k, pgOk img y = true) (hx : x.length = 256) (hk : k ≤ q) (h7 : q ≤ 7) : (alD img (L.take k)).length + x.length ≤ 100000000 := by
  have h2 : (L.take k).length ≤ k := List.length_take_le ..
  rw [alD_len h, hx]
  omega
theorem page_form {w : World} {v : Value} {xs : Bytes} (h : Src w v xs) (hl : xs.length = 256) : ∃ vA vb vc, v = .slice (some ⟨vA, vb, none⟩) 256 vc ∧ Src w (.slice (some ⟨vA, vb, none⟩) 256 vc) xs ∧ 256 ≤ vc := by
  obtain ⟨A, c, rfl, h2⟩ := id h
  rw [hl] at h
  obtain ⟨b, off, rfl, _, hc, _⟩ := src_form h (by decide)
  exact ⟨b, off, c, by rw [hl], h, hc⟩
theorem idsD_pos {img : Bytes} {g id : Int} {M : Nat} (h : 1 ≤ M) : 0 < (idsD img g id M).length := by
  obtain ⟨k, rfl⟩ : ∃ k, M = k + 1 := ⟨M - 1, by omega⟩
  rw [idsD]
  simp
theorem row_form {W : World} {B : Nat} {V : Value} {x : Bytes} (h : Row8 W B V x) (hx : 0 < x.length) : ∃ b off c, V = .slice (some ⟨b, off, none⟩) x.length c ∧ Src W (.slice (some ⟨b, off, none⟩) x.length c) x ∧ x.length ≤ c := by
  have hs := h.src
  obtain ⟨A, c, rfl, h2⟩ := id hs
  obtain ⟨b, off, rfl, _, hc, _⟩ := src_form hs hx
  exact ⟨b, off, c, rfl, hs, hc⟩
theorem str_ne {x y : Bytes} (h : x ≠ y) : ¬ (⟨x.toArray⟩ : ByteArray) = ⟨y.toArray⟩ := fun e => h (by
  have h2 := congrArg ByteArray.data e
  simpa using h2)
theorem va_len {img : Bytes} {m : Nat} (h2 : 240 ≤ m ∧ m ≤ 248) : ∀ {L : List Int}, (∀ x ∈ L, pgOk img x = true) → (L.flatMap fun y => (pgB img y).drop (256 - m)).length = L.length * m
  | [], _ => by simp
  | x :: L, h => by
    have h1 := pgB_256 (h x (List.mem_cons_self ..))
    have := va_len h2 (L := L) fun y hy => h y (List.mem_cons_of_mem _ hy)
    simp only [List.flatMap_cons, List.length_append, List.length_cons, List.length_drop, h1]
    rw [this, Nat.succ_mul]
    omega
theorem chain_va {wr : World} {B m : Nat} {U : Value} {img : Bytes} {gg : Int} {L : List Int} (h : Row8 wr B U (L.flatMap fun y => (pgB img y).drop (256 - m))) (ha : ∀ x ∈ L, pgOk img x = true) (hm2 : 240 ≤ m ∧ m ≤ 248) (hg : ¬ gg = 3) (hm : (m : Int) = tr gg 248 240 240) (hl : 0 < L.length) : ∃ vb vo vn vc, U = .slice (some ⟨vb, vo, none⟩) vn vc ∧ Src wr (.slice (some ⟨vb, vo, none⟩) vn vc) (vaD img gg L) := by
  have e : vaD img gg L = L.flatMap fun y => (pgB img y).drop (256 - m) := by
    unfold vaD
    rw [if_neg hg, ← hm, Int.toNat_natCast]
  have hlen := va_len hm2 ha
  have hp : 0 < L.length * m := Nat.mul_pos hl (by omega)
  obtain ⟨b, off, c, h1, h2, _⟩ := row_form h (by rw [hlen]; exact hp)
  rw [e]
  exact ⟨b, off, _, c, h1, h2⟩
theorem va_bound {img : Bytes} {m : Nat} {L : List Int} {k q : Nat} {x : Bytes} (hm2 : 240 ≤ m ∧ m ≤ 248) (h : ∀ y ∈ L.take k, pgOk img y = true) (hx : x.length = 256) (hk : k ≤ q) (h7 : q ≤ 7) : ((L.take k).flatMap fun y => (pgB img y).drop (256 - m)).length + (x.drop (256 - m)).length ≤ 100000000 := by
  have h2 : (L.take k).length ≤ k := List.length_take_le ..
  have h3 : (L.take k).length * m ≤ 7 * 248 := Nat.mul_le_mul (by omega) hm2.2
  rw [va_len hm2 h, List.length_drop, hx]
  omega
theorem chain_part {w : World} {b off c m : Nat} {xs : Bytes} (h : Src w (.slice (some ⟨b, off, none⟩) 256 c) xs) (hm2 : 240 ≤ m ∧ m ≤ 248) : Src w (.slice (some ⟨b, off + (256 - m), none⟩) (256 - (256 - m)) (c - (256 - m))) (xs.drop (256 - m)) := (src_rest (k := 256 - m) h (by omega)).1
/-- What the document's Decode tells. -/
def DecD (w : World) (img : Bytes) (id size : Int) (e : Ending) (w' : World) : Prop :=
  (okD img id size = true ∧ ∃ x IA k ic, e = .returned (.tuple #[.int .i64 (hdG (pgB img id) : Nat), x, .slice IA k ic, .bool true]) ∧ Src w' x ((vaD img (hdG (pgB img id) : Nat) (idsD img (hdG (pgB img id) : Nat) id (manyP (hdG (pgB img id) : Nat) size).toNat)).take size.toNat) ∧ Ints w' (.slice IA k ic) (idsD img (hdG (pgB img id) : Nat) id (manyP (hdG (pgB img id) : Nat) size).toNat) ∧ Only (w.heap.size ≤ ·) w w') ∨
  (okD img id size = false ∧ e = .returned (.tuple #[.int .i64 0, .slice none 0 0, .slice none 0 0, .bool false]) ∧ Only (w.heap.size ≤ ·) w w')
section
variable (w : World) (A : Option Addr) (n c : Nat) (img : Bytes) (id size : Int)
set_option maxRecDepth 100000 in
set_option maxHeartbeats 1600000 in
theorem OrDecode_no (hv : Src w (.slice A n c) img) (hn : n ≤ 6000) (hok : pgOk img id = true) (h : hdE (pgB img id) ≠ 0 ∨ manyP (hdG (pgB img id) : Nat) size = 0) :
    Calls Tryd.prog 15 #[.slice A n c, .int .i64 id, .int .i64 size] w (DecD w img id size) := by
  have HNO := Lib.hid (okD_head (img := img) (id := id) (size := size) h)
  have HP0 : Hid (∀ W, Calls Tryd.prog 14 #[.slice A n c, .int .i64 id] W fun e w' => ∃ v, e = .returned (.tuple #[v, .bool true]) ∧ Src w v (pgB img id) ∧ W = w') := Lib.hid fun W => by have := rPage_x w W A n c img id hv hn; rwa [hok] at this
  by_cases he : hdE (pgB img id) = 0
  · have hm : manyP (hdG (pgB img id) : Nat) size = 0 := h.elim (fun h => absurd he h) fun h => h
    have HHD : Hid (∀ W v, Src W v (pgB img id) → Calls Tryd.prog 31 #[v] W (Told W (hdOk (pgB img id)))) := Lib.hid fun W v h => by have := rHeadOf_c W v _ h (by have := pgB_len img id; omega); rwa [rhd_ok he] at this
    obtain ⟨kk, hkk⟩ : ∃ x : Int, x = (hdK (pgB img id) : Nat) := ⟨_, rfl⟩
    obtain ⟨gg, hgg⟩ : ∃ x : Int, x = (hdG (pgB img id) : Nat) := ⟨_, rfl⟩
    obtain ⟨nn, hnn⟩ : ∃ x : Int, x = (hdN (pgB img id) : Nat) := ⟨_, rfl⟩
    obtain ⟨xx, hxx⟩ : ∃ x : Int, x = (hdX (pgB img id) : Nat) := ⟨_, rfl⟩
    unfold hdOk at HHD
    rw [← hkk, ← hgg, ← hnn, ← hxx] at HHD
    have HMY : Hid (∀ W, Calls Tryd.prog 11 #[.int .i64 gg, .int .i64 size] W fun e w' => e = .returned (.int .i64 0) ∧ W = w') := Lib.hid fun W => by have := rMany_c W gg size; rwa [hgg, hm, ← hgg] at this
    clear hv hok h he hm hkk hgg hnn hxx
    go_enter Tryd.func15, Tryd.ntmps15
    go_upto_region 4 with (first | (go_at_call 14; go_loud ((with_reducible refine (HP0.out w).mono ?_); rintro ee wp ⟨v0, rfl, hv, rfl⟩; have HV0 := Lib.hid hv; clear hv)) | (go_at_call 31; go_loud ((with_reducible refine (HHD.out w v0 HV0.out).mono ?_); rintro ee w1 ⟨rfl, ho⟩; have HO1 := Lib.hid ho; have HBH : Hid (Blk (w1.alloc (.cells #[.int .i64 kk, .int .i64 gg, .int .i64 nn, .int .i64 xx] 64)) w1.heap.size 64 [.int .i64 kk, .int .i64 gg, .int .i64 nn, .int .i64 xx]) := Lib.hid (Blk.new w1 64 _); have kg := HBH.out.cell 1; simp only [List.getElem?_cons_zero, List.getElem?_cons_succ] at kg; have HOh : Hid (Only (w.heap.size ≤ ·) w (w1.alloc (.cells #[.int .i64 kk, .int .i64 gg, .int .i64 nn, .int .i64 xx] 64))) := Lib.hid (HO1.out.alloc (fun _ h => h) _); clear ho)) | (go_at_call 11; go_loud ((with_reducible refine (HMY.out _).mono ?_); rintro ee w2 ⟨rfl, rfl⟩)))
    go_wp2
    try simp only [Exit.inBlock, Exit.then]
    refine bodyPost_ret (results_tmp4 rfl _ _ _) rfl ?_
    exact Or.inr ⟨HNO.out, rfl, HOh.out⟩
  · obtain ⟨z, hz⟩ : ∃ z, z = hdE (pgB img id) := ⟨_, rfl⟩
    have HHD : Hid (∀ W v, Src W v (pgB img id) → Calls Tryd.prog 31 #[v] W (Told W (hdBad z))) := Lib.hid fun W v h => by have := rHeadOf_c W v _ h (by have := pgB_len img id; omega); rwa [rhd_no he, ← hz] at this
    unfold hdBad at HHD
    have HMY : Hid (∀ W, Calls Tryd.prog 11 #[.int .i64 0, .int .i64 size] W fun e w' => e = .returned (.int .i64 (manyP 0 size)) ∧ W = w') := Lib.hid fun W => rMany_c W 0 size
    obtain ⟨mz, hmz⟩ : ∃ m, m = manyP 0 size := ⟨_, rfl⟩
    rw [← hmz] at HMY
    rw [← hz] at he
    clear hv hok h hz hmz
    go_enter Tryd.func15, Tryd.ntmps15
    go_upto_region 4 with (first | (go_at_call 14; go_loud ((with_reducible refine (HP0.out w).mono ?_); rintro ee wp ⟨v0, rfl, hv, rfl⟩; have HV0 := Lib.hid hv; clear hv)) | (go_at_call 31; go_loud ((with_reducible refine (HHD.out w v0 HV0.out).mono ?_); rintro ee w1 ⟨rfl, ho⟩; have HO1 := Lib.hid ho; have HBH : Hid (Blk (w1.alloc (.cells #[.int .i64 0, .int .i64 0, .int .i64 0, .int .i64 0] 64)) w1.heap.size 64 [.int .i64 0, .int .i64 0, .int .i64 0, .int .i64 0]) := Lib.hid (Blk.new w1 64 _); have kg := HBH.out.cell 1; simp only [List.getElem?_cons_zero, List.getElem?_cons_succ] at kg; have HOh : Hid (Only (w.heap.size ≤ ·) w (w1.alloc (.cells #[.int .i64 0, .int .i64 0, .int .i64 0, .int .i64 0] 64))) := Lib.hid (HO1.out.alloc (fun _ h => h) _); clear ho)) | (go_at_call 11; go_loud ((with_reducible refine (HMY.out _).mono ?_); rintro ee w2 ⟨rfl, rfl⟩)))
    go_wp2
    try simp only [Exit.inBlock, Exit.then]
    refine bodyPost_ret (results_tmp4 rfl _ _ _) rfl ?_
    exact Or.inr ⟨HNO.out, rfl, HOh.out⟩
set_option maxRecDepth 100000 in
set_option maxHeartbeats 6400000 in
theorem OrDecode_ext (gg : Int) (M : Nat) (hg3 : gg = 3) (hv : Src w (.slice A n c) img) (hn : n ≤ 6000) (hok : pgOk img id = true) (he : hdE (pgB img id) = 0) (hgg : gg = (hdG (pgB img id) : Nat)) (hM : manyP gg size = (M : Int)) (h1 : 1 ≤ M) :
    Calls Tryd.prog 15 #[.slice A n c, .int .i64 id, .int .i64 size] w (DecD w img id size) := by
  obtain ⟨hgs, hs33, hs1600, hM0, hM7⟩ := many_gen (g := gg) (n := size) (by omega)
  obtain ⟨N, hN⟩ : ∃ N : Nat, size = (N : Int) := ⟨size.toNat, by omega⟩
  subst hN
  have hid := of_decide_eq_true hok
  have hnv : n = img.length := by
    obtain ⟨A', c', e, _⟩ := hv
    simp only [Value.slice.injEq] at e
    exact e.2.1
  obtain ⟨L, hL⟩ : ∃ L, L = idsD img gg id M := ⟨_, rfl⟩
  have hLM : L.length ≤ M := by rw [hL]; exact idsD_len img gg M id
  have HOK := Lib.hid (okD_iff (img := img) (size := (N : Int)) (N := N) he hgg hM h1 (by simp) hL)
  have HP0 : Hid (∀ W, Calls Tryd.prog 14 #[.slice A n c, .int .i64 id] W fun e w' => ∃ v, e = .returned (.tuple #[v, .bool true]) ∧ Src w v (pgB img id) ∧ W = w') := Lib.hid fun W => by have := rPage_x w W A n c img id hv hn; rwa [hok] at this
  have HPG : Hid (∀ W x, Calls Tryd.prog 14 #[.slice A n c, .int .i64 x] W fun e w' => ∃ v, e = .returned (.tuple #[v, .bool (pgOk img x)]) ∧ Src w v (pgB img x) ∧ W = w') := Lib.hid fun W x => rPage_x w W A n c img x hv hn
  have HHD : Hid (∀ W v, Src W v (pgB img id) → Calls Tryd.prog 31 #[v] W (Told W (hdOk (pgB img id)))) := Lib.hid fun W v h => by have := rHeadOf_c W v _ h (by have := pgB_len img id; omega); rwa [rhd_ok he] at this
  have HID : Hid (∀ W, Only (w.heap.size ≤ ·) w W → Calls Tryd.prog 32 #[.slice A n c, .int .i64 gg, .int .i64 id, .int .i64 (M : Nat)] W fun e w' => ∃ IA k ic, e = .returned (.slice IA k ic) ∧ w'.ownsRow W.heap.size 3 1 (.slice IA k ic) k (ci L) ∧ Only (W.heap.size ≤ ·) W w') := Lib.hid fun W hW => by rw [hL]; exact Orids_c W A n c M img gg id (hv.later hW) hn hid.1 (by omega) (by omega)
  have HMY : Hid (∀ W, Calls Tryd.prog 11 #[.int .i64 gg, .int .i64 (N : Nat)] W fun e w' => e = .returned (.int .i64 (M : Nat)) ∧ W = w') := Lib.hid fun W => by have := rMany_c W gg (N : Int); rwa [hM] at this
  have HCP : Hid (∀ W, Calls Tryd.prog 10 #[.int .i64 gg] W fun e w' => e = .returned (.int .i64 (tr gg 248 240 240)) ∧ W = w') := Lib.hid fun W => rCap_c W gg
  have HEN : Hid (∀ W XA xn xc UA q uc (v : Bytes), Src W (.slice XA xn xc) v → Ints W (.slice UA q uc) L → Calls Tryd.prog 33 #[.int .i64 gg, .slice XA xn xc, .slice UA q uc] W fun e w' => ∃ r, e = .returned (.tuple #[r, .int .i64 (if encOk gg xn L = true then 0 else 1)]) ∧ Src w' r (if encOk gg xn L = true then (encB gg v L).flatten else []) ∧ Only (W.heap.size ≤ ·) W w') := Lib.hid fun W XA xn xc UA q uc v h1 h2 => OrEncode_c W gg XA UA xn xc q uc v L h1 h2 (by omega)
  obtain ⟨kk, hkk⟩ : ∃ x : Int, x = (hdK (pgB img id) : Nat) := ⟨_, rfl⟩
  obtain ⟨nn, hnn⟩ : ∃ x : Int, x = (hdN (pgB img id) : Nat) := ⟨_, rfl⟩
  obtain ⟨xx, hxx⟩ : ∃ x : Int, x = (hdX (pgB img id) : Nat) := ⟨_, rfl⟩
  unfold hdOk at HHD
  rw [← hkk, ← hgg, ← hnn, ← hxx] at HHD
  have HYES : Hid (∀ e w', okD img id N = true → (∃ x IA k ic, e = .returned (.tuple #[.int .i64 gg, x, .slice IA k ic, .bool true]) ∧ Src w' x ((vaD img gg L).take N) ∧ Ints w' (.slice IA k ic) L ∧ Only (w.heap.size ≤ ·) w w') → DecD w img id N e w') := Lib.hid fun e w' h2 h3 => by
    refine Or.inl ⟨h2, ?_⟩
    rw [← hgg, hM]
    simp only [Int.toNat_natCast]
    rw [← hL]
    exact h3
  have HNOT : Hid (∀ e w', okD img id N = false → e = .returned (.tuple #[.int .i64 0, .slice none 0 0, .slice none 0 0, .bool false]) → Only (w.heap.size ≤ ·) w w' → DecD w img id N e w') := Lib.hid fun e w' h2 h3 h4 => Or.inr ⟨h2, h3, h4⟩
  have HS := Lib.hid (And.intro hs33 (And.intro hs1600 (And.intro hLM hM7)))
  have HLL : Hid (∀ q, q = L.length → q ≤ 7) := Lib.hid fun q h => by omega
  have m1 : ¬ (M : Int) = 0 := by omega
  have HL1 : Hid (0 < L.length) := Lib.hid (by rw [hL]; exact idsD_pos h1)
  have HV := Lib.hid hv
  obtain ⟨DD, hDD⟩ : ∃ D, D = DecD w img id (N : Int) := ⟨_, rfl⟩
  rw [← hDD] at HYES HNOT ⊢
  clear hDD hv hok he hM hM0 hM7 h1 hgs hid hnv hL hLM hkk hnn hxx hgg hs33 hs1600
  subst hg3
  skip
  skip
  skip
  skip
  skip
  skip
  go_enter Tryd.func15, Tryd.ntmps15
  go_upto_region 4 with (first | (go_at_call 14; go_loud ((with_reducible refine (HP0.out w).mono ?_); rintro ee wp ⟨v0, rfl, hv, rfl⟩; have HV0 := Lib.hid hv; clear hv)) | (go_at_call 31; go_loud ((with_reducible refine (HHD.out w v0 HV0.out).mono ?_); rintro ee w1 ⟨rfl, ho⟩; have HO1 := Lib.hid ho; have HBH : Hid (Blk (w1.alloc (.cells #[.int .i64 kk, .int .i64 3, .int .i64 nn, .int .i64 xx] 64)) w1.heap.size 64 [.int .i64 kk, .int .i64 3, .int .i64 nn, .int .i64 xx]) := Lib.hid (Blk.new w1 64 _); have kg := HBH.out.cell 1; simp only [List.getElem?_cons_zero, List.getElem?_cons_succ] at kg; have HOh : Hid (Only (w.heap.size ≤ ·) w (w1.alloc (.cells #[.int .i64 kk, .int .i64 3, .int .i64 nn, .int .i64 xx] 64))) := Lib.hid (HO1.out.alloc (fun _ h => h) _); clear ho)) | (go_at_call 11; go_loud ((with_reducible refine (HMY.out _).mono ?_); rintro ee w2 ⟨rfl, rfl⟩)))
  go_upto_region 10 with (go_at_call 32; go_loud ((with_reducible refine (HID.out _ HOh.out).mono ?_); rintro ee wB ⟨IA, q, ic, rfl, hi, ho⟩; have HIB := Lib.hid hi; have HBB := Lib.hid (HBH.out.later ho); have HOB := Lib.hid (on_new HOh.out ho); clear hi ho))
  have HQL : Hid (q = L.length) := Lib.hid (by have h9 := HIB.out.1; unfold ci at h9; rw [List.length_map] at h9; omega)
  have hq7 := HLL.out q HQL.out
  have HIN := Lib.hid (Ints.own HIB.out)
  go_wp2_with (fail)
  go_loopw [16, 17, 18] (fun vv av i wr => ∃ (k : Nat), i = .int .i64 k ∧ k ≤ q ∧ Hid (Du wB.heap.size wr av vv (alD img (L.take k)) []) ∧ Hid (∀ y ∈ L.take k, pgOk img y = true) ∧ Hid (Only (wB.heap.size ≤ ·) wB wr)) (fun _ _ i _ => q - (intOf i).toNat)
  case atStart => exact ⟨0, rfl, Nat.zero_le _, Lib.hid ⟨World.ownsRow_nil _ _ _ _, World.ownsRow_nil _ _ _ _, fun b e => by cases e⟩, Lib.hid fun y hy => by simp at hy, Lib.hid (Only.refl _ wB)⟩
  case round =>
    obtain ⟨k, rfl, hkq, HD, HAO, HOk⟩ := hrel
    by_cases hlt : k < q
    · obtain ⟨ib, io, x, rfl, hib, hx, hcell⟩ := (HIN.out.later HOk.out).at_ hlt
      have hkn : (k : Int) < (q : Int) := by omega
      have hkn0 : (0 : Int) ≤ (k : Int) := by omega
      by_cases hp : pgOk img x = true
      · have HPX : Hid (∀ W, Calls Tryd.prog 14 #[.slice A n c, .int .i64 x] W fun e w' => ∃ v, e = .returned (.tuple #[v, .bool true]) ∧ Src w v (pgB img x) ∧ W = w') := Lib.hid fun W => by have := HPG.out W x; rwa [hp] at this
        have HPL : Hid ((pgB img x).length = 256) := Lib.hid (pgB_256 hp)
        have HAO2 : Hid (∀ y ∈ L.take (k + 1), pgOk img y = true) := Lib.hid (all_snoc hx HAO.out hp)
        have HSN := Lib.hid (alD_snoc (img := img) hx)
        have HX := Lib.hid hx
        skip
        skip
        have HLA : Hid ((alD img (L.take k)).length + (pgB img x).length ≤ 100000000) := Lib.hid (al_bound HAO.out HPL.out hkq hq7)
        clear hx hp
        go_wp2_with (first
          | (go_at_call 14; go_loud ((with_reducible refine (HPX.out _).mono ?_); rintro ee wp ⟨pv, rfl, hv, rfl⟩; (obtain ⟨vA, vb, vc, rfl, hsv, hvc⟩ := page_form hv HPL.out); have HSV := Lib.hid hsv; have HOW := Lib.hid (on_new HOB.out HOk.out); clear hv hsv))
          | (at_builtin; go_loud (refine wpList_bytes rfl (.tmp 67) (.tmp 68) rfl wB.heap.size u17 (.slice (some ⟨vA, vb, none⟩) 256 vc) (alD img (L.take k)) (pgB img x) rfl HD.out.v rfl (HSV.out.later HOW.out) HLA.out HOk.out.size ?_; intro v' w' ho' hg' hat'; have HD2 : Hid (Du wB.heap.size w' v' u16 (alD img (L.take (k + 1))) []) := Lib.hid (HD.out.push0 (by rw [HSN.out]; unfold Row8; rw [List.length_append, cb_append]; exact ho') hg' hat'); have HO2 : Hid (Only (wB.heap.size ≤ ·) wB w') := Lib.hid (HOk.out.grown hg' (fun _ h => h) (fun k hk => (World.ownsRow.lt HD.out.v k hk).1)); have kg := (HBB.out.later HO2.out).cell 1; simp only [List.getElem?_cons_zero, List.getElem?_cons_succ] at kg; clear ho' hg' hat'))
)
        go_roundw
        case rel => exact ⟨k + 1, by go_num, hlt, HD2, HAO2, HO2⟩
        case measure => (simp [intOf] <;> omega)
      · have HPX : Hid (∀ W, Calls Tryd.prog 14 #[.slice A n c, .int .i64 x] W fun e w' => ∃ v, e = .returned (.tuple #[v, .bool false]) ∧ Src w v (pgB img x) ∧ W = w') := Lib.hid fun W => by have := HPG.out W x; rwa [show pgOk img x = false by simpa using hp] at this
        have HF : Hid (okD img id N = false) := Lib.hid (by rw [HOK.out, all_no hx hp, Bool.false_and])
        clear hx hp
        go_wp2_with (go_at_call 14; go_loud ((with_reducible refine (HPX.out _).mono ?_); rintro ee wp ⟨pv, rfl, hv, rfl⟩; clear hv))
        try simp only [Exit.inBlock, Exit.then]
        refine bodyPost_ret (results_tmp4 rfl _ _ _) rfl ?_
        exact HNOT.out _ _ HF.out rfl (on_new HOB.out HOk.out)
    · obtain rfl : q = k := by omega
      clear hlt hkq
      have HTK : Hid (L.take q = L) := Lib.hid (List.take_of_length_le (by rw [← HQL.out]; exact Nat.le_refl _))
      rw [HTK.out] at HD HAO
      have HAL : Hid ((alD img L).length = q * 256) := Lib.hid (by rw [alD_len HAO.out, ← HQL.out])
      have HALL : Hid (L.all (pgOk img) = true) := Lib.hid (List.all_eq_true.2 HAO.out)
      obtain ⟨ab, ao, ac, e17, hsa, hac⟩ := row_form HD.out.v (by rw [HAL.out]; have := HL1.out; have := HQL.out; omega)
      rw [HAL.out] at e17 hsa hac
      subst e17
      have HSA := Lib.hid hsa
      have HVA : Hid (∃ vb vo vn vc, (.slice (some ⟨ab, ao + 16, none⟩) (q * 256 - 16) (ac - 16) : Value) = .slice (some ⟨vb, vo, none⟩) vn vc ∧ Src wr (.slice (some ⟨vb, vo, none⟩) vn vc) (vaD img 3 L)) := Lib.hid (⟨_, _, _, _, rfl, by rw [show vaD img 3 L = (alD img L).drop 16 from rfl]; exact (src_rest HSA.out (by have := HL1.out; have := HQL.out; omega)).1⟩)
      have hac2 : ¬ ac = 16 := by have := HL1.out; have := HQL.out; omega
      have hac3 : (16 : Int) ≤ (ac : Int) := by have := HL1.out; have := HQL.out; omega
      have hac4 : (16 : Int) ≤ (q : Int) * 256 := by have := HL1.out; have := HQL.out; omega
      have hac5 : 16 ≤ q * 256 := by have := HL1.out; have := HQL.out; omega
      obtain ⟨vb, vo, vn, vc, ev, hsv⟩ := HVA.out
      simp only [Value.slice.injEq, Option.some.injEq, Addr.mk.injEq, and_true] at ev
      obtain ⟨⟨e1, e2⟩, e3, e4⟩ := ev
      subst e1 e2 e3 e4
      clear HVA hsa
      have hvl : (q * 256 - 16) = (vaD img 3 L).length := by
        obtain ⟨A', c', e, _⟩ := hsv
        simp only [Value.slice.injEq] at e
        exact e.2.1
      have HVC : Hid ((q * 256 - 16) ≤ (ac - 16)) := Lib.hid (by
        obtain ⟨A', c', e, _, _, h4, _⟩ := hsv
        simp only [Value.slice.injEq] at e
        omega)
      have HSV := Lib.hid hsv
      have kg := (HBB.out.later HOk.out).cell 1
      simp only [List.getElem?_cons_zero, List.getElem?_cons_succ] at kg
      have HOW : Hid (Only (w.heap.size ≤ ·) w wr) := Lib.hid (on_new HOB.out HOk.out)
      clear hsv
      by_cases hlen : (q * 256 - 16) < N
      · have HF : Hid (okD img id N = false) := Lib.hid (by rw [HOK.out, HALL.out, decide_eq_false (p := N ≤ _) (by rw [← hvl]; omega)]; rfl)
        have hli : (((q * 256 - 16 : Nat) : Int) : Int) < (N : Int) := by omega
        clear hvl
        go_wp2_with (fail)
        try simp only [Exit.inBlock, Exit.then]
        refine bodyPost_ret (results_tmp4 rfl _ _ _) rfl ?_
        exact HNOT.out _ _ HF.out rfl HOW.out
      · have hli : ¬ (((q * 256 - 16 : Nat) : Int) : Int) < (N : Int) := by omega
        have HLE : Hid (decide (N ≤ (vaD img 3 L).length) = true) := Lib.hid (decide_eq_true (by rw [← hvl]; omega))
        have HCUT : Hid (Src wr (.slice (some ⟨ab, ao + 16, none⟩) N (ac - 16)) ((vaD img 3 L).take N)) := Lib.hid (src_cut HSV.out (by rw [← hvl]; omega))
        have hnc : (N : Int) ≤ (((ac - 16 : Nat) : Int) : Int) := by have := HVC.out; omega
        have hnc0 : (0 : Int) ≤ (N : Int) := by omega
        clear hvl hlen
        have HDW : Hid (Only (wr.heap.size ≤ ·) wr wr.drew) := Lib.hid (Only.refl _ wr).drew
        by_cases henc : encOk 3 N L = true
        · obtain ⟨wt, hwt⟩ : ∃ x, x = (encB 3 ((vaD img 3 L).take N) L).flatten := ⟨_, rfl⟩
          have HEN2 : Hid (Calls Tryd.prog 33 #[.int .i64 3, .slice (some ⟨ab, ao + 16, none⟩) N (ac - 16), .slice IA q ic] wr.drew fun e w' => ∃ r, e = .returned (.tuple #[r, .int .i64 0]) ∧ Src w' r wt ∧ Only (wr.drew.heap.size ≤ ·) wr.drew w') := Lib.hid (by
            have h9 := HEN.out wr.drew _ N (ac - 16) IA q ic _ (HCUT.out.later HDW.out) ((HIN.out.later HOk.out).later HDW.out)
            rw [if_pos henc, if_pos henc, ← hwt] at h9
            exact h9)
          have HWT := Lib.hid hwt
          have HENC := Lib.hid henc
          clear hwt henc
          go_upto_region 22 with (fail)
          refine wp_region_list (B := [false, false, false, false, false, false, false, false, false, false, false, false]) (S := (fun W => W.cell? ⟨w1.heap.size, 1, none⟩ = some (.int .i64 3))) (by kernel_rfl) (by kernel_rfl) (by kernel_rfl) kg (fun hsel hHeld => ?_)
          refine oneA 0 91 hsel (h := ?_)
          simp only [Act.put, List.setIfInBounds_toArray, List.set_cons_zero, List.set_cons_succ]
          refine oneA 1 92 hsel (h := ?_)
          simp only [Act.put, List.setIfInBounds_toArray, List.set_cons_zero, List.set_cons_succ]
          refine oneA 2 93 hsel (h := ?_)
          simp only [Act.put, List.setIfInBounds_toArray, List.set_cons_zero, List.set_cons_succ]
          refine oneA 3 94 hsel (h := ?_)
          simp only [Act.put, List.setIfInBounds_toArray, List.set_cons_zero, List.set_cons_succ]
          refine oneA 4 95 hsel (h := ?_)
          simp only [Act.put, List.setIfInBounds_toArray, List.set_cons_zero, List.set_cons_succ]
          refine oneA 5 96 hsel (h := ?_)
          simp only [Act.put, List.setIfInBounds_toArray, List.set_cons_zero, List.set_cons_succ]
          refine wpAnyL_ready (rs := [6]) (by kernel_rfl) (by kernel_rfl) (by simp) ?_
          refine AllReadyL.cons (o := ?_) ?_ (fun K hK => ?_) AllReadyL.nil
          case refine_2 => (simp only [List.getElem?_cons_succ, List.getElem?_cons_zero]; rfl)
          go_simp
          (go_at_call 33; (with_reducible refine HEN2.out.mono ?_); rintro ee wE ⟨r, rfl, hr, ho⟩; have HRR := Lib.hid hr; have HOE : Hid (Only (wB.heap.size ≤ ·) wB wE) := Lib.hid (on_new HOk.out.drew ho); have HOr : Hid (Only (wr.heap.size ≤ ·) wr wE) := Lib.hid (HDW.out.trans ho); clear hr ho)
          go_wp2_with (fail)
          clear hHeld
          refine hK.out _ _ ((HBB.out.later HOE.out).cell 1) (fun hHeld => ?_)
          clear hK K
          try simp only [List.set_cons_zero, List.set_cons_succ]
          refine oneA 7 90 hsel (h := ?_)
          simp only [Act.put, List.setIfInBounds_toArray, List.set_cons_zero, List.set_cons_succ]
          refine oneA 8 98 hsel (h := ?_)
          simp only [Act.put, List.setIfInBounds_toArray, List.set_cons_zero, List.set_cons_succ]
          refine oneA 9 99 hsel (h := ?_)
          simp only [Act.put, List.setIfInBounds_toArray, List.set_cons_zero, List.set_cons_succ]
          refine oneA 10 21 hsel (h := ?_)
          simp only [Act.put, List.setIfInBounds_toArray, List.set_cons_zero, List.set_cons_succ]
          refine oneA 11 22 hsel (h := ?_)
          simp only [Act.put, List.setIfInBounds_toArray, List.set_cons_zero, List.set_cons_succ]
          refine wpAnyL_done (by kernel_rfl) (by kernel_rfl) ?_ _
          clear hsel hHeld
          have HSE : Hid (Src wE (.slice (some ⟨ab, ao, none⟩) (q * 256) ac) (alD img L)) := Lib.hid (HSA.out.later HOr.out)
          have k2 := convert_src HSE.out
          have kg2 := (HBB.out.later HOE.out).cell 1
          simp only [List.getElem?_cons_zero, List.getElem?_cons_succ] at kg2
          by_cases hw : wt = alD img L
          · have HF : Hid (okD img id N = true) := Lib.hid (by rw [HOK.out, HALL.out, HLE.out, HENC.out, decide_eq_true (by rw [← HWT.out]; exact hw)]; rfl)
            rw [hw] at HRR
            have k1 := convert_src HRR.out
            go_upto_region 25 with (fail)
            clear k1 k2
            refine wp_region_list (B := [false, false, false, false, false, false, false, false, false, false]) (S := (fun W => W.cell? ⟨w1.heap.size, 1, none⟩ = some (.int .i64 3))) (by kernel_rfl) (by kernel_rfl) (by kernel_rfl) kg2 (fun hsel hHeld => ?_)
            refine oneA 0 109 hsel (h := ?_)
            simp only [Act.put, List.setIfInBounds_toArray, List.set_cons_zero, List.set_cons_succ]
            refine oneA 1 110 hsel (h := ?_)
            simp only [Act.put, List.setIfInBounds_toArray, List.set_cons_zero, List.set_cons_succ]
            refine oneA 2 111 hsel (h := ?_)
            simp only [Act.put, List.setIfInBounds_toArray, List.set_cons_zero, List.set_cons_succ]
            refine oneA 3 112 hsel (h := ?_)
            simp only [Act.put, List.setIfInBounds_toArray, List.set_cons_zero, List.set_cons_succ]
            refine oneA 4 113 hsel (h := ?_)
            simp only [Act.put, List.setIfInBounds_toArray, List.set_cons_zero, List.set_cons_succ]
            refine oneA 5 114 hsel (h := ?_)
            simp only [Act.put, List.setIfInBounds_toArray, List.set_cons_zero, List.set_cons_succ]
            refine oneA 6 6 hsel (h := ?_)
            simp only [Act.put, List.setIfInBounds_toArray, List.set_cons_zero, List.set_cons_succ]
            refine oneA 7 7 hsel (h := ?_)
            simp only [Act.put, List.setIfInBounds_toArray, List.set_cons_zero, List.set_cons_succ]
            refine oneA 8 8 hsel (h := ?_)
            simp only [Act.put, List.setIfInBounds_toArray, List.set_cons_zero, List.set_cons_succ]
            refine oneA 9 9 hsel (h := ?_)
            simp only [Act.put, List.setIfInBounds_toArray, List.set_cons_zero, List.set_cons_succ]
            refine wpAnyL_done (by kernel_rfl) (by kernel_rfl) ?_ _
            clear hsel hHeld
            go_wp2_with (fail)
            try simp only [Exit.inBlock, Exit.then]
            refine bodyPost_ret (results_tmp4 rfl _ _ _) rfl ?_
            exact HYES.out _ _ HF.out ⟨_, _, _, _, rfl, (HCUT.out.later HOr.out).later (Only.refl _ wE).drew, ((HIN.out.later HOE.out).later (Only.refl _ wE).drew), (on_new HOB.out HOE.out).drew⟩
          · have HF : Hid (okD img id N = false) := Lib.hid (by rw [HOK.out, HALL.out, HLE.out, HENC.out, decide_eq_false (by rw [← HWT.out]; exact hw)]; rfl)
            have k1 := convert_src HRR.out
            have kn : (wt == alD img L) = false := by simpa using hw
            clear hw
            go_wp2_with (fail)
            try simp only [Exit.inBlock, Exit.then]
            refine bodyPost_ret (results_tmp4 rfl _ _ _) rfl ?_
            exact HNOT.out _ _ HF.out rfl (on_new HOB.out HOE.out)
        · have HEN2 : Hid (Calls Tryd.prog 33 #[.int .i64 3, .slice (some ⟨ab, ao + 16, none⟩) N (ac - 16), .slice IA q ic] wr.drew fun e w' => ∃ r, e = .returned (.tuple #[r, .int .i64 1]) ∧ Src w' r [] ∧ Only (wr.drew.heap.size ≤ ·) wr.drew w') := Lib.hid (by
            have h9 := HEN.out wr.drew _ N (ac - 16) IA q ic _ (HCUT.out.later HDW.out) ((HIN.out.later HOk.out).later HDW.out)
            rw [if_neg henc, if_neg henc] at h9
            exact h9)
          have HF : Hid (okD img id N = false) := Lib.hid (by rw [HOK.out, HALL.out, HLE.out, show encOk 3 N L = false by simpa using henc]; rfl)
          clear henc
          go_upto_region 22 with (fail)
          refine wp_region_list (B := [false, false, false, false, false, false, false, false, false, false, false, false]) (S := (fun W => W.cell? ⟨w1.heap.size, 1, none⟩ = some (.int .i64 3))) (by kernel_rfl) (by kernel_rfl) (by kernel_rfl) kg (fun hsel hHeld => ?_)
          refine oneA 0 91 hsel (h := ?_)
          simp only [Act.put, List.setIfInBounds_toArray, List.set_cons_zero, List.set_cons_succ]
          refine oneA 1 92 hsel (h := ?_)
          simp only [Act.put, List.setIfInBounds_toArray, List.set_cons_zero, List.set_cons_succ]
          refine oneA 2 93 hsel (h := ?_)
          simp only [Act.put, List.setIfInBounds_toArray, List.set_cons_zero, List.set_cons_succ]
          refine oneA 3 94 hsel (h := ?_)
          simp only [Act.put, List.setIfInBounds_toArray, List.set_cons_zero, List.set_cons_succ]
          refine oneA 4 95 hsel (h := ?_)
          simp only [Act.put, List.setIfInBounds_toArray, List.set_cons_zero, List.set_cons_succ]
          refine oneA 5 96 hsel (h := ?_)
          simp only [Act.put, List.setIfInBounds_toArray, List.set_cons_zero, List.set_cons_succ]
          refine wpAnyL_ready (rs := [6]) (by kernel_rfl) (by kernel_rfl) (by simp) ?_
          refine AllReadyL.cons (o := ?_) ?_ (fun K hK => ?_) AllReadyL.nil
          case refine_2 => (simp only [List.getElem?_cons_succ, List.getElem?_cons_zero]; rfl)
          go_simp
          (go_at_call 33; (with_reducible refine HEN2.out.mono ?_); rintro ee wE ⟨r, rfl, hr, ho⟩; have HRR := Lib.hid hr; have HOE : Hid (Only (wB.heap.size ≤ ·) wB wE) := Lib.hid (on_new HOk.out.drew ho); have HOr : Hid (Only (wr.heap.size ≤ ·) wr wE) := Lib.hid (HDW.out.trans ho); clear hr ho)
          go_wp2_with (fail)
          clear hHeld
          refine hK.out _ _ ((HBB.out.later HOE.out).cell 1) (fun hHeld => ?_)
          clear hK K
          try simp only [List.set_cons_zero, List.set_cons_succ]
          refine oneA 7 90 hsel (h := ?_)
          simp only [Act.put, List.setIfInBounds_toArray, List.set_cons_zero, List.set_cons_succ]
          refine oneA 8 98 hsel (h := ?_)
          simp only [Act.put, List.setIfInBounds_toArray, List.set_cons_zero, List.set_cons_succ]
          refine oneA 9 99 hsel (h := ?_)
          simp only [Act.put, List.setIfInBounds_toArray, List.set_cons_zero, List.set_cons_succ]
          refine oneA 10 21 hsel (h := ?_)
          simp only [Act.put, List.setIfInBounds_toArray, List.set_cons_zero, List.set_cons_succ]
          refine oneA 11 22 hsel (h := ?_)
          simp only [Act.put, List.setIfInBounds_toArray, List.set_cons_zero, List.set_cons_succ]
          refine wpAnyL_done (by kernel_rfl) (by kernel_rfl) ?_ _
          clear hsel hHeld
          go_wp2_with (fail)
          try simp only [Exit.inBlock, Exit.then]
          refine bodyPost_ret (results_tmp4 rfl _ _ _) rfl ?_
          exact HNOT.out _ _ HF.out rfl (on_new HOB.out HOE.out)
set_option maxRecDepth 100000 in
set_option maxHeartbeats 6400000 in
theorem OrDecode_chain (gg : Int) (M : Nat) (m : Nat) (hm : (m : Int) = tr gg 248 240 240) (hg12 : gg = 1 ∨ gg = 2) (hv : Src w (.slice A n c) img) (hn : n ≤ 6000) (hok : pgOk img id = true) (he : hdE (pgB img id) = 0) (hgg : gg = (hdG (pgB img id) : Nat)) (hM : manyP gg size = (M : Int)) (h1 : 1 ≤ M) :
    Calls Tryd.prog 15 #[.slice A n c, .int .i64 id, .int .i64 size] w (DecD w img id size) := by
  obtain ⟨hgs, hs33, hs1600, hM0, hM7⟩ := many_gen (g := gg) (n := size) (by omega)
  obtain ⟨N, hN⟩ : ∃ N : Nat, size = (N : Int) := ⟨size.toNat, by omega⟩
  subst hN
  have hid := of_decide_eq_true hok
  have hnv : n = img.length := by
    obtain ⟨A', c', e, _⟩ := hv
    simp only [Value.slice.injEq] at e
    exact e.2.1
  obtain ⟨L, hL⟩ : ∃ L, L = idsD img gg id M := ⟨_, rfl⟩
  have hLM : L.length ≤ M := by rw [hL]; exact idsD_len img gg M id
  have HOK := Lib.hid (okD_iff (img := img) (size := (N : Int)) (N := N) he hgg hM h1 (by simp) hL)
  have HP0 : Hid (∀ W, Calls Tryd.prog 14 #[.slice A n c, .int .i64 id] W fun e w' => ∃ v, e = .returned (.tuple #[v, .bool true]) ∧ Src w v (pgB img id) ∧ W = w') := Lib.hid fun W => by have := rPage_x w W A n c img id hv hn; rwa [hok] at this
  have HPG : Hid (∀ W x, Calls Tryd.prog 14 #[.slice A n c, .int .i64 x] W fun e w' => ∃ v, e = .returned (.tuple #[v, .bool (pgOk img x)]) ∧ Src w v (pgB img x) ∧ W = w') := Lib.hid fun W x => rPage_x w W A n c img x hv hn
  have HHD : Hid (∀ W v, Src W v (pgB img id) → Calls Tryd.prog 31 #[v] W (Told W (hdOk (pgB img id)))) := Lib.hid fun W v h => by have := rHeadOf_c W v _ h (by have := pgB_len img id; omega); rwa [rhd_ok he] at this
  have HID : Hid (∀ W, Only (w.heap.size ≤ ·) w W → Calls Tryd.prog 32 #[.slice A n c, .int .i64 gg, .int .i64 id, .int .i64 (M : Nat)] W fun e w' => ∃ IA k ic, e = .returned (.slice IA k ic) ∧ w'.ownsRow W.heap.size 3 1 (.slice IA k ic) k (ci L) ∧ Only (W.heap.size ≤ ·) W w') := Lib.hid fun W hW => by rw [hL]; exact Orids_c W A n c M img gg id (hv.later hW) hn hid.1 (by omega) (by omega)
  have HMY : Hid (∀ W, Calls Tryd.prog 11 #[.int .i64 gg, .int .i64 (N : Nat)] W fun e w' => e = .returned (.int .i64 (M : Nat)) ∧ W = w') := Lib.hid fun W => by have := rMany_c W gg (N : Int); rwa [hM] at this
  have HCP : Hid (∀ W, Calls Tryd.prog 10 #[.int .i64 gg] W fun e w' => e = .returned (.int .i64 (tr gg 248 240 240)) ∧ W = w') := Lib.hid fun W => rCap_c W gg
  have HEN : Hid (∀ W XA xn xc UA q uc (v : Bytes), Src W (.slice XA xn xc) v → Ints W (.slice UA q uc) L → Calls Tryd.prog 33 #[.int .i64 gg, .slice XA xn xc, .slice UA q uc] W fun e w' => ∃ r, e = .returned (.tuple #[r, .int .i64 (if encOk gg xn L = true then 0 else 1)]) ∧ Src w' r (if encOk gg xn L = true then (encB gg v L).flatten else []) ∧ Only (W.heap.size ≤ ·) W w') := Lib.hid fun W XA xn xc UA q uc v h1 h2 => OrEncode_c W gg XA UA xn xc q uc v L h1 h2 (by omega)
  obtain ⟨kk, hkk⟩ : ∃ x : Int, x = (hdK (pgB img id) : Nat) := ⟨_, rfl⟩
  obtain ⟨nn, hnn⟩ : ∃ x : Int, x = (hdN (pgB img id) : Nat) := ⟨_, rfl⟩
  obtain ⟨xx, hxx⟩ : ∃ x : Int, x = (hdX (pgB img id) : Nat) := ⟨_, rfl⟩
  unfold hdOk at HHD
  rw [← hkk, ← hgg, ← hnn, ← hxx] at HHD
  have HYES : Hid (∀ e w', okD img id N = true → (∃ x IA k ic, e = .returned (.tuple #[.int .i64 gg, x, .slice IA k ic, .bool true]) ∧ Src w' x ((vaD img gg L).take N) ∧ Ints w' (.slice IA k ic) L ∧ Only (w.heap.size ≤ ·) w w') → DecD w img id N e w') := Lib.hid fun e w' h2 h3 => by
    refine Or.inl ⟨h2, ?_⟩
    rw [← hgg, hM]
    simp only [Int.toNat_natCast]
    rw [← hL]
    exact h3
  have HNOT : Hid (∀ e w', okD img id N = false → e = .returned (.tuple #[.int .i64 0, .slice none 0 0, .slice none 0 0, .bool false]) → Only (w.heap.size ≤ ·) w w' → DecD w img id N e w') := Lib.hid fun e w' h2 h3 h4 => Or.inr ⟨h2, h3, h4⟩
  have HS := Lib.hid (And.intro hs33 (And.intro hs1600 (And.intro hLM hM7)))
  have HLL : Hid (∀ q, q = L.length → q ≤ 7) := Lib.hid fun q h => by omega
  have m1 : ¬ (M : Int) = 0 := by omega
  have HL1 : Hid (0 < L.length) := Lib.hid (by rw [hL]; exact idsD_pos h1)
  have HV := Lib.hid hv
  obtain ⟨DD, hDD⟩ : ∃ D, D = DecD w img id (N : Int) := ⟨_, rfl⟩
  rw [← hDD] at HYES HNOT ⊢
  clear hDD hv hok he hM hM0 hM7 h1 hgs hid hnv hL hLM hkk hnn hxx hgg hs33 hs1600
  have hg3 : ¬ gg = 3 := by omega
  have hglt : gg < 3 := by omega
  rw [← hm] at HCP
  have hm2 : 240 ≤ m ∧ m ≤ 248 := by rcases hg12 with rfl | rfl <;> simp only [tr, reduceIte, Int.reduceEq] at hm <;> omega
  have qm : wrap64 (256 - (m : Int)) = ((256 - m : Nat) : Int) := by rw [wrap_same (by unfold I64; omega)]; omega
  have HMT := Lib.hid hm
  clear hm
  go_enter Tryd.func15, Tryd.ntmps15
  go_upto_region 4 with (first | (go_at_call 14; go_loud ((with_reducible refine (HP0.out w).mono ?_); rintro ee wp ⟨v0, rfl, hv, rfl⟩; have HV0 := Lib.hid hv; clear hv)) | (go_at_call 31; go_loud ((with_reducible refine (HHD.out w v0 HV0.out).mono ?_); rintro ee w1 ⟨rfl, ho⟩; have HO1 := Lib.hid ho; have HBH : Hid (Blk (w1.alloc (.cells #[.int .i64 kk, .int .i64 gg, .int .i64 nn, .int .i64 xx] 64)) w1.heap.size 64 [.int .i64 kk, .int .i64 gg, .int .i64 nn, .int .i64 xx]) := Lib.hid (Blk.new w1 64 _); have kg := HBH.out.cell 1; simp only [List.getElem?_cons_zero, List.getElem?_cons_succ] at kg; have HOh : Hid (Only (w.heap.size ≤ ·) w (w1.alloc (.cells #[.int .i64 kk, .int .i64 gg, .int .i64 nn, .int .i64 xx] 64))) := Lib.hid (HO1.out.alloc (fun _ h => h) _); clear ho)) | (go_at_call 11; go_loud ((with_reducible refine (HMY.out _).mono ?_); rintro ee w2 ⟨rfl, rfl⟩)))
  go_upto_region 10 with (go_at_call 32; go_loud ((with_reducible refine (HID.out _ HOh.out).mono ?_); rintro ee wB ⟨IA, q, ic, rfl, hi, ho⟩; have HIB := Lib.hid hi; have HBB := Lib.hid (HBH.out.later ho); have HOB := Lib.hid (on_new HOh.out ho); clear hi ho))
  have HQL : Hid (q = L.length) := Lib.hid (by have h9 := HIB.out.1; unfold ci at h9; rw [List.length_map] at h9; omega)
  have hq7 := HLL.out q HQL.out
  have HIN := Lib.hid (Ints.own HIB.out)
  go_wp2_with (fail)
  go_loopw [16, 17, 18] (fun vv av i wr => ∃ (k : Nat), i = .int .i64 k ∧ k ≤ q ∧ Hid (Du wB.heap.size wr av vv (alD img (L.take k)) ((L.take k).flatMap fun y => (pgB img y).drop (256 - m))) ∧ Hid (∀ y ∈ L.take k, pgOk img y = true) ∧ Hid (Only (wB.heap.size ≤ ·) wB wr)) (fun _ _ i _ => q - (intOf i).toNat)
  case atStart => exact ⟨0, rfl, Nat.zero_le _, Lib.hid ⟨World.ownsRow_nil _ _ _ _, World.ownsRow_nil _ _ _ _, fun b e => by cases e⟩, Lib.hid fun y hy => by simp at hy, Lib.hid (Only.refl _ wB)⟩
  case round =>
    obtain ⟨k, rfl, hkq, HD, HAO, HOk⟩ := hrel
    by_cases hlt : k < q
    · obtain ⟨ib, io, x, rfl, hib, hx, hcell⟩ := (HIN.out.later HOk.out).at_ hlt
      have hkn : (k : Int) < (q : Int) := by omega
      have hkn0 : (0 : Int) ≤ (k : Int) := by omega
      by_cases hp : pgOk img x = true
      · have HPX : Hid (∀ W, Calls Tryd.prog 14 #[.slice A n c, .int .i64 x] W fun e w' => ∃ v, e = .returned (.tuple #[v, .bool true]) ∧ Src w v (pgB img x) ∧ W = w') := Lib.hid fun W => by have := HPG.out W x; rwa [hp] at this
        have HPL : Hid ((pgB img x).length = 256) := Lib.hid (pgB_256 hp)
        have HAO2 : Hid (∀ y ∈ L.take (k + 1), pgOk img y = true) := Lib.hid (all_snoc hx HAO.out hp)
        have HSN := Lib.hid (alD_snoc (img := img) hx)
        have HX := Lib.hid hx
        have HLV := Lib.hid (va_bound (x := pgB img x) hm2 HAO.out HPL.out hkq hq7)
        have HSV2 : Hid (((L.take (k + 1)).flatMap fun y => (pgB img y).drop (256 - m)) = ((L.take k).flatMap fun y => (pgB img y).drop (256 - m)) ++ (pgB img x).drop (256 - m)) := Lib.hid (by rw [take_snoc hx]; simp)
        have HLA : Hid ((alD img (L.take k)).length + (pgB img x).length ≤ 100000000) := Lib.hid (al_bound HAO.out HPL.out hkq hq7)
        clear hx hp
        go_wp2_with (first
          | (go_at_call 14; go_loud ((with_reducible refine (HPX.out _).mono ?_); rintro ee wp ⟨pv, rfl, hv, rfl⟩; (obtain ⟨vA, vb, vc, rfl, hsv, hvc⟩ := page_form hv HPL.out); have HSV := Lib.hid hsv; have HOW := Lib.hid (on_new HOB.out HOk.out); clear hv hsv))
          | (at_builtin; go_loud (refine wpList_bytes rfl (.tmp 67) (.tmp 68) rfl wB.heap.size u17 (.slice (some ⟨vA, vb, none⟩) 256 vc) (alD img (L.take k)) (pgB img x) rfl HD.out.v rfl (HSV.out.later HOW.out) HLA.out HOk.out.size ?_; intro v' w' ho' hg' hat'; have HD2 : Hid (Du wB.heap.size w' v' u16 (alD img (L.take (k + 1))) ((L.take k).flatMap fun y => (pgB img y).drop (256 - m))) := Lib.hid (HD.out.push0 (by rw [HSN.out]; unfold Row8; rw [List.length_append, cb_append]; exact ho') hg' hat'); have HO2 : Hid (Only (wB.heap.size ≤ ·) wB w') := Lib.hid (HOk.out.grown hg' (fun _ h => h) (fun k hk => (World.ownsRow.lt HD.out.v k hk).1)); have kg := (HBB.out.later HO2.out).cell 1; simp only [List.getElem?_cons_zero, List.getElem?_cons_succ] at kg; clear ho' hg' hat'))
          | (go_at_call 10; go_loud ((with_reducible refine (HCP.out _).mono ?_); rintro ee wc ⟨rfl, rfl⟩))
          | (at_builtin; go_loud (refine wpList_bytes rfl (.tmp 73) (.tmp 79) rfl wB.heap.size u16 (.slice (some ⟨vA, vb + (256 - m), none⟩) (256 - (256 - m)) (vc - (256 - m))) ((L.take k).flatMap fun y => (pgB img y).drop (256 - m)) ((pgB img x).drop (256 - m)) rfl HD2.out.u rfl (chain_part (HSV.out.later (on_new HOB.out HO2.out)) hm2) HLV.out HO2.out.size ?_; intro v2 w2' ho' hg' hat'; have HD3 : Hid (Du wB.heap.size w2' v' v2 (alD img (L.take (k + 1))) ((L.take (k + 1)).flatMap fun y => (pgB img y).drop (256 - m))) := Lib.hid ((HD2.out.swap.push0 (by rw [HSV2.out]; unfold Row8; rw [List.length_append, cb_append]; exact ho') hg' hat').swap); have HO3 : Hid (Only (wB.heap.size ≤ ·) wB w2') := Lib.hid (HO2.out.grown hg' (fun _ h => h) (fun k hk => (World.ownsRow.lt HD2.out.u k hk).1)); clear ho' hg' hat')))
        go_roundw
        case rel => exact ⟨k + 1, by go_num, hlt, HD3, HAO2, HO3⟩
        case measure => (simp [intOf] <;> omega)
      · have HPX : Hid (∀ W, Calls Tryd.prog 14 #[.slice A n c, .int .i64 x] W fun e w' => ∃ v, e = .returned (.tuple #[v, .bool false]) ∧ Src w v (pgB img x) ∧ W = w') := Lib.hid fun W => by have := HPG.out W x; rwa [show pgOk img x = false by simpa using hp] at this
        have HF : Hid (okD img id N = false) := Lib.hid (by rw [HOK.out, all_no hx hp, Bool.false_and])
        clear hx hp
        go_wp2_with (go_at_call 14; go_loud ((with_reducible refine (HPX.out _).mono ?_); rintro ee wp ⟨pv, rfl, hv, rfl⟩; clear hv))
        try simp only [Exit.inBlock, Exit.then]
        refine bodyPost_ret (results_tmp4 rfl _ _ _) rfl ?_
        exact HNOT.out _ _ HF.out rfl (on_new HOB.out HOk.out)
    · obtain rfl : q = k := by omega
      clear hlt hkq
      have HTK : Hid (L.take q = L) := Lib.hid (List.take_of_length_le (by rw [← HQL.out]; exact Nat.le_refl _))
      rw [HTK.out] at HD HAO
      have HAL : Hid ((alD img L).length = q * 256) := Lib.hid (by rw [alD_len HAO.out, ← HQL.out])
      have HALL : Hid (L.all (pgOk img) = true) := Lib.hid (List.all_eq_true.2 HAO.out)
      obtain ⟨ab, ao, ac, e17, hsa, hac⟩ := row_form HD.out.v (by rw [HAL.out]; have := HL1.out; have := HQL.out; omega)
      rw [HAL.out] at e17 hsa hac
      subst e17
      have HSA := Lib.hid hsa
      have HVA : Hid (∃ vb vo vn vc, u16 = .slice (some ⟨vb, vo, none⟩) vn vc ∧ Src wr (.slice (some ⟨vb, vo, none⟩) vn vc) (vaD img gg L)) := Lib.hid (chain_va HD.out.u HAO.out hm2 hg3 HMT.out HL1.out)
      skip
      skip
      skip
      skip
      obtain ⟨vb, vo, vn, vc, ev, hsv⟩ := HVA.out
      subst ev
      skip
      skip
      clear HVA hsa
      have hvl : vn = (vaD img gg L).length := by
        obtain ⟨A', c', e, _⟩ := hsv
        simp only [Value.slice.injEq] at e
        exact e.2.1
      have HVC : Hid (vn ≤ vc) := Lib.hid (by
        obtain ⟨A', c', e, _, _, h4, _⟩ := hsv
        simp only [Value.slice.injEq] at e
        omega)
      have HSV := Lib.hid hsv
      have kg := (HBB.out.later HOk.out).cell 1
      simp only [List.getElem?_cons_zero, List.getElem?_cons_succ] at kg
      have HOW : Hid (Only (w.heap.size ≤ ·) w wr) := Lib.hid (on_new HOB.out HOk.out)
      clear hsv
      by_cases hlen : vn < N
      · have HF : Hid (okD img id N = false) := Lib.hid (by rw [HOK.out, HALL.out, decide_eq_false (p := N ≤ _) (by rw [← hvl]; omega)]; rfl)
        have hli : (vn : Int) < (N : Int) := by omega
        clear hvl
        go_wp2_with (fail)
        try simp only [Exit.inBlock, Exit.then]
        refine bodyPost_ret (results_tmp4 rfl _ _ _) rfl ?_
        exact HNOT.out _ _ HF.out rfl HOW.out
      · have hli : ¬ (vn : Int) < (N : Int) := by omega
        have HLE : Hid (decide (N ≤ (vaD img gg L).length) = true) := Lib.hid (decide_eq_true (by rw [← hvl]; omega))
        have HCUT : Hid (Src wr (.slice (some ⟨vb, vo, none⟩) N vc) ((vaD img gg L).take N)) := Lib.hid (src_cut HSV.out (by rw [← hvl]; omega))
        have hnc : (N : Int) ≤ (vc : Int) := by have := HVC.out; omega
        have hnc0 : (0 : Int) ≤ (N : Int) := by omega
        clear hvl hlen
        have HDW : Hid (Only (wr.heap.size ≤ ·) wr wr.drew) := Lib.hid (Only.refl _ wr).drew
        by_cases henc : encOk gg N L = true
        · obtain ⟨wt, hwt⟩ : ∃ x, x = (encB gg ((vaD img gg L).take N) L).flatten := ⟨_, rfl⟩
          have HEN2 : Hid (Calls Tryd.prog 33 #[.int .i64 gg, .slice (some ⟨vb, vo, none⟩) N vc, .slice IA q ic] wr.drew fun e w' => ∃ r, e = .returned (.tuple #[r, .int .i64 0]) ∧ Src w' r wt ∧ Only (wr.drew.heap.size ≤ ·) wr.drew w') := Lib.hid (by
            have h9 := HEN.out wr.drew _ N vc IA q ic _ (HCUT.out.later HDW.out) ((HIN.out.later HOk.out).later HDW.out)
            rw [if_pos henc, if_pos henc, ← hwt] at h9
            exact h9)
          have HWT := Lib.hid hwt
          have HENC := Lib.hid henc
          clear hwt henc
          go_upto_region 22 with (fail)
          refine wp_region_list (B := [false, false, false, false, false, false, false, false, false, false, false, false]) (S := (fun W => W.cell? ⟨w1.heap.size, 1, none⟩ = some (.int .i64 gg))) (by kernel_rfl) (by kernel_rfl) (by kernel_rfl) kg (fun hsel hHeld => ?_)
          refine oneA 0 91 hsel (h := ?_)
          simp only [Act.put, List.setIfInBounds_toArray, List.set_cons_zero, List.set_cons_succ]
          refine oneA 1 92 hsel (h := ?_)
          simp only [Act.put, List.setIfInBounds_toArray, List.set_cons_zero, List.set_cons_succ]
          refine oneA 2 93 hsel (h := ?_)
          simp only [Act.put, List.setIfInBounds_toArray, List.set_cons_zero, List.set_cons_succ]
          refine oneA 3 94 hsel (h := ?_)
          simp only [Act.put, List.setIfInBounds_toArray, List.set_cons_zero, List.set_cons_succ]
          refine oneA 4 95 hsel (h := ?_)
          simp only [Act.put, List.setIfInBounds_toArray, List.set_cons_zero, List.set_cons_succ]
          refine oneA 5 96 hsel (h := ?_)
          simp only [Act.put, List.setIfInBounds_toArray, List.set_cons_zero, List.set_cons_succ]
          refine wpAnyL_ready (rs := [6]) (by kernel_rfl) (by kernel_rfl) (by simp) ?_
          refine AllReadyL.cons (o := ?_) ?_ (fun K hK => ?_) AllReadyL.nil
          case refine_2 => (simp only [List.getElem?_cons_succ, List.getElem?_cons_zero]; rfl)
          go_simp
          (go_at_call 33; (with_reducible refine HEN2.out.mono ?_); rintro ee wE ⟨r, rfl, hr, ho⟩; have HRR := Lib.hid hr; have HOE : Hid (Only (wB.heap.size ≤ ·) wB wE) := Lib.hid (on_new HOk.out.drew ho); have HOr : Hid (Only (wr.heap.size ≤ ·) wr wE) := Lib.hid (HDW.out.trans ho); clear hr ho)
          go_wp2_with (fail)
          clear hHeld
          refine hK.out _ _ ((HBB.out.later HOE.out).cell 1) (fun hHeld => ?_)
          clear hK K
          try simp only [List.set_cons_zero, List.set_cons_succ]
          refine oneA 7 90 hsel (h := ?_)
          simp only [Act.put, List.setIfInBounds_toArray, List.set_cons_zero, List.set_cons_succ]
          refine oneA 8 98 hsel (h := ?_)
          simp only [Act.put, List.setIfInBounds_toArray, List.set_cons_zero, List.set_cons_succ]
          refine oneA 9 99 hsel (h := ?_)
          simp only [Act.put, List.setIfInBounds_toArray, List.set_cons_zero, List.set_cons_succ]
          refine oneA 10 21 hsel (h := ?_)
          simp only [Act.put, List.setIfInBounds_toArray, List.set_cons_zero, List.set_cons_succ]
          refine oneA 11 22 hsel (h := ?_)
          simp only [Act.put, List.setIfInBounds_toArray, List.set_cons_zero, List.set_cons_succ]
          refine wpAnyL_done (by kernel_rfl) (by kernel_rfl) ?_ _
          clear hsel hHeld
          have HSE : Hid (Src wE (.slice (some ⟨ab, ao, none⟩) (q * 256) ac) (alD img L)) := Lib.hid (HSA.out.later HOr.out)
          have k2 := convert_src HSE.out
          have kg2 := (HBB.out.later HOE.out).cell 1
          simp only [List.getElem?_cons_zero, List.getElem?_cons_succ] at kg2
          by_cases hw : wt = alD img L
          · have HF : Hid (okD img id N = true) := Lib.hid (by rw [HOK.out, HALL.out, HLE.out, HENC.out, decide_eq_true (by rw [← HWT.out]; exact hw)]; rfl)
            rw [hw] at HRR
            have k1 := convert_src HRR.out
            go_upto_region 25 with (fail)
            clear k1 k2
            refine wp_region_list (B := [false, false, false, false, false, false, false, false, false, false]) (S := (fun W => W.cell? ⟨w1.heap.size, 1, none⟩ = some (.int .i64 gg))) (by kernel_rfl) (by kernel_rfl) (by kernel_rfl) kg2 (fun hsel hHeld => ?_)
            refine oneA 0 109 hsel (h := ?_)
            simp only [Act.put, List.setIfInBounds_toArray, List.set_cons_zero, List.set_cons_succ]
            refine oneA 1 110 hsel (h := ?_)
            simp only [Act.put, List.setIfInBounds_toArray, List.set_cons_zero, List.set_cons_succ]
            refine oneA 2 111 hsel (h := ?_)
            simp only [Act.put, List.setIfInBounds_toArray, List.set_cons_zero, List.set_cons_succ]
            refine oneA 3 112 hsel (h := ?_)
            simp only [Act.put, List.setIfInBounds_toArray, List.set_cons_zero, List.set_cons_succ]
            refine oneA 4 113 hsel (h := ?_)
            simp only [Act.put, List.setIfInBounds_toArray, List.set_cons_zero, List.set_cons_succ]
            refine oneA 5 114 hsel (h := ?_)
            simp only [Act.put, List.setIfInBounds_toArray, List.set_cons_zero, List.set_cons_succ]
            refine oneA 6 6 hsel (h := ?_)
            simp only [Act.put, List.setIfInBounds_toArray, List.set_cons_zero, List.set_cons_succ]
            refine oneA 7 7 hsel (h := ?_)
            simp only [Act.put, List.setIfInBounds_toArray, List.set_cons_zero, List.set_cons_succ]
            refine oneA 8 8 hsel (h := ?_)
            simp only [Act.put, List.setIfInBounds_toArray, List.set_cons_zero, List.set_cons_succ]
            refine oneA 9 9 hsel (h := ?_)
            simp only [Act.put, List.setIfInBounds_toArray, List.set_cons_zero, List.set_cons_succ]
            refine wpAnyL_done (by kernel_rfl) (by kernel_rfl) ?_ _
            clear hsel hHeld
            go_wp2_with (fail)
            try simp only [Exit.inBlock, Exit.then]
            refine bodyPost_ret (results_tmp4 rfl _ _ _) rfl ?_
            exact HYES.out _ _ HF.out ⟨_, _, _, _, rfl, (HCUT.out.later HOr.out).later (Only.refl _ wE).drew, ((HIN.out.later HOE.out).later (Only.refl _ wE).drew), (on_new HOB.out HOE.out).drew⟩
          · have HF : Hid (okD img id N = false) := Lib.hid (by rw [HOK.out, HALL.out, HLE.out, HENC.out, decide_eq_false (by rw [← HWT.out]; exact hw)]; rfl)
            have k1 := convert_src HRR.out
            have kn : (wt == alD img L) = false := by simpa using hw
            clear hw
            go_wp2_with (fail)
            try simp only [Exit.inBlock, Exit.then]
            refine bodyPost_ret (results_tmp4 rfl _ _ _) rfl ?_
            exact HNOT.out _ _ HF.out rfl (on_new HOB.out HOE.out)
        · have HEN2 : Hid (Calls Tryd.prog 33 #[.int .i64 gg, .slice (some ⟨vb, vo, none⟩) N vc, .slice IA q ic] wr.drew fun e w' => ∃ r, e = .returned (.tuple #[r, .int .i64 1]) ∧ Src w' r [] ∧ Only (wr.drew.heap.size ≤ ·) wr.drew w') := Lib.hid (by
            have h9 := HEN.out wr.drew _ N vc IA q ic _ (HCUT.out.later HDW.out) ((HIN.out.later HOk.out).later HDW.out)
            rw [if_neg henc, if_neg henc] at h9
            exact h9)
          have HF : Hid (okD img id N = false) := Lib.hid (by rw [HOK.out, HALL.out, HLE.out, show encOk gg N L = false by simpa using henc]; rfl)
          clear henc
          go_upto_region 22 with (fail)
          refine wp_region_list (B := [false, false, false, false, false, false, false, false, false, false, false, false]) (S := (fun W => W.cell? ⟨w1.heap.size, 1, none⟩ = some (.int .i64 gg))) (by kernel_rfl) (by kernel_rfl) (by kernel_rfl) kg (fun hsel hHeld => ?_)
          refine oneA 0 91 hsel (h := ?_)
          simp only [Act.put, List.setIfInBounds_toArray, List.set_cons_zero, List.set_cons_succ]
          refine oneA 1 92 hsel (h := ?_)
          simp only [Act.put, List.setIfInBounds_toArray, List.set_cons_zero, List.set_cons_succ]
          refine oneA 2 93 hsel (h := ?_)
          simp only [Act.put, List.setIfInBounds_toArray, List.set_cons_zero, List.set_cons_succ]
          refine oneA 3 94 hsel (h := ?_)
          simp only [Act.put, List.setIfInBounds_toArray, List.set_cons_zero, List.set_cons_succ]
          refine oneA 4 95 hsel (h := ?_)
          simp only [Act.put, List.setIfInBounds_toArray, List.set_cons_zero, List.set_cons_succ]
          refine oneA 5 96 hsel (h := ?_)
          simp only [Act.put, List.setIfInBounds_toArray, List.set_cons_zero, List.set_cons_succ]
          refine wpAnyL_ready (rs := [6]) (by kernel_rfl) (by kernel_rfl) (by simp) ?_
          refine AllReadyL.cons (o := ?_) ?_ (fun K hK => ?_) AllReadyL.nil
          case refine_2 => (simp only [List.getElem?_cons_succ, List.getElem?_cons_zero]; rfl)
          go_simp
          (go_at_call 33; (with_reducible refine HEN2.out.mono ?_); rintro ee wE ⟨r, rfl, hr, ho⟩; have HRR := Lib.hid hr; have HOE : Hid (Only (wB.heap.size ≤ ·) wB wE) := Lib.hid (on_new HOk.out.drew ho); have HOr : Hid (Only (wr.heap.size ≤ ·) wr wE) := Lib.hid (HDW.out.trans ho); clear hr ho)
          go_wp2_with (fail)
          clear hHeld
          refine hK.out _ _ ((HBB.out.later HOE.out).cell 1) (fun hHeld => ?_)
          clear hK K
          try simp only [List.set_cons_zero, List.set_cons_succ]
          refine oneA 7 90 hsel (h := ?_)
          simp only [Act.put, List.setIfInBounds_toArray, List.set_cons_zero, List.set_cons_succ]
          refine oneA 8 98 hsel (h := ?_)
          simp only [Act.put, List.setIfInBounds_toArray, List.set_cons_zero, List.set_cons_succ]
          refine oneA 9 99 hsel (h := ?_)
          simp only [Act.put, List.setIfInBounds_toArray, List.set_cons_zero, List.set_cons_succ]
          refine oneA 10 21 hsel (h := ?_)
          simp only [Act.put, List.setIfInBounds_toArray, List.set_cons_zero, List.set_cons_succ]
          refine oneA 11 22 hsel (h := ?_)
          simp only [Act.put, List.setIfInBounds_toArray, List.set_cons_zero, List.set_cons_succ]
          refine wpAnyL_done (by kernel_rfl) (by kernel_rfl) ?_ _
          clear hsel hHeld
          go_wp2_with (fail)
          try simp only [Exit.inBlock, Exit.then]
          refine bodyPost_ret (results_tmp4 rfl _ _ _) rfl ?_
          exact HNOT.out _ _ HF.out rfl (on_new HOB.out HOE.out)
end
end Go.Proofs.YtbgnfocfnjlabaaDoor

