/-
  Get.
-/
import Derived.Test.YtdpdlhfjemehcaaTpt
set_option linter.unusedVariables false
namespace Go.Proofs.Ytdpdlhfjemehcaa
open Go.RowKit

theorem down_last {l : List Nm} {ch : Nd → Nat} {root : Int} (hs : ∀ x, x.leaf = false → x.kds ≠ [] → ch x < x.kds.length) : ∀ (k : Nat) (r : Int), Vis l root r → (downP l ch k r).1 = 0 → ∃ s : Sp, (downP l ch k r).2.getLast? = some s ∧ s.2.1.leaf = true ∧ ∃ ref, Vis l root ref ∧ nodeP l ref = some s.2.1
  | 0, r, _, h => by simp [downP] at h
  | k + 1, r, hv, h => by
    cases hno : nodeP l r with
    | none =>
      rw [down_none hno] at h
      simp at h
    | some x =>
      by_cases hb : x.leaf = false ∧ x.kds = []
      · rw [down_bare hno hb.1 hb.2] at h
        simp at h
      · cases hl : x.leaf with
        | true =>
          rw [down_leaf hno hl]
          exact ⟨(r, x, (ch x : Int)), rfl, hl, r, hv, hno⟩
        | false =>
          have hk : x.kds ≠ [] := fun e => hb ⟨hl, e⟩
          have hlt := hs x hl hk
          have hy : x.kds[ch x]? = some x.kds[ch x] := List.getElem?_eq_getElem hlt
          have hr : kidRef x (ch x) = x.kds[ch x].2 := by unfold kidRef; rw [hy]; rfl
          have hv2 : Vis l root (kidRef x (ch x)) := by rw [hr]; exact Vis.kid hv hno hl (List.getElem_mem hlt)
          rw [downP, hno] at h ⊢
          simp only at h ⊢
          rw [if_neg hb, if_neg (fun e => by rw [hl] at e; cases e)] at h ⊢
          by_cases h0 : (downP l ch k (kidRef x (ch x))).1 = 0
          · rw [if_pos h0]
            obtain ⟨s, h1, h2⟩ := down_last hs k _ hv2 h0
            refine ⟨s, ?_, h2⟩
            show ((r, x, (ch x : Int)) :: (downP l ch k (kidRef x (ch x))).2).getLast? = some s
            rw [List.getLast?_cons, h1]
            rfl
          · rw [if_neg h0] at h
            exact absurd h h0
/-- What Get finds. -/
def getP (l : List Nm) (key : Bytes) (root : Int) : Int × Option It :=
  if (downP l (chP key) 12 root).1 = 0 then (0, (downP l (chP key) 12 root).2.getLast?.bind fun s => if hasP s.2.1.its key = true then s.2.1.its[findP s.2.1.its key]? else none) else ((downP l (chP key) 12 root).1, none)
/-- The four parts of an item's value. -/
def ItV (w : World) (y : It) (v u : Value) (s r : Int) : Prop := Src w v y.1 ∧ Src w u y.2.1 ∧ s = y.2.2.1 ∧ r = y.2.2.2
theorem ItV.later {w w' : World} {y : It} {v u : Value} {s r : Int} (h : ItV w y v u s r) (ho : Only (w.heap.size ≤ ·) w w') : ItV w' y v u s r := ⟨h.1.later ho, h.2.1.later ho, h.2.2⟩
def GetSays (w : World) (g : Int × Option It) (e : Ending) (w' : World) : Prop :=
  (∃ P t p Q m q s r b er, e = .returned (.tuple #[.agg #[.slice P t p, .slice Q m q, .int .i64 s, .int .i64 r], .bool b, .int .i64 er]) ∧ er = g.1 ∧ b = g.2.isSome ∧ ItV w' (g.2.getD ([], [], 0, 0)) (.slice P t p) (.slice Q m q) s r) ∧ Only (w.heap.size ≤ ·) w w'
theorem results_cell3 {fn : Func} {P : Program} {p q r : Tmp} {ty : TypeId} {tmps : Array Value} {w : World} {a : Addr} {v x y : Value} (h : fn.results = #[.cell p ty, .tmp q, .tmp r]) (ha : tmps.getD p undef = .pointer (some a)) (hx : tmps.getD q undef = x) (hy : tmps.getD r undef = y) (hl : (loadVar ty a).run P w = .ok v w) :
    (results fn tmps).run P w = .ok (.tuple #[v, x, y]) w := by
  rw [Array.getD_eq_getD_getElem?] at ha hx hy
  simp only [results, h]
  simp [ha, hx, hy, asAddr, hl]
theorem load_item {w : World} {g : Nat} {P Q : Option Addr} {t p m q : Nat} {s r : Int} (h : Blk w g 60 [.slice P t p, .slice Q m q, .int .i64 s, .int .i64 r]) : (loadVar 60 ⟨g, 0, none⟩).run Try.prog w = .ok (.agg #[.slice P t p, .slice Q m q, .int .i64 s, .int .i64 r]) w := by
  obtain ⟨c0, c1, c2, c3⟩ := h.four
  simp [go_sem, c0, c1, c2, c3]
theorem ItV.none_ (w : World) : ItV w ([], [], 0, 0) (.slice none 0 0) (.slice none 0 0) 0 0 := ⟨(New.nil_ w 0).src, (New.nil_ w 0).src, rfl, rfl⟩
theorem src_item {w W : World} {g : Nat} {t : TypeId} {A B : Option Addr} {n c m d : Nat} {s r : Int} {v : Value} {xs : Bytes} (hb : Blk w g t [.slice A n c, .slice B m d, .int .i64 s, .int .i64 r]) (h : Src w v xs) (hW : Only (· = g) w W) : Src W v xs := by
  obtain ⟨A, c, h1, ⟨h2, h3⟩, h4⟩ := h
  refine ⟨A, c, h1, ⟨h2, fun hn => ?_⟩, h4⟩
  obtain ⟨ad, e, hc⟩ := h3 hn
  refine ⟨ad, e, fun j u hu => (hW.cell (p := ad.add j) ?_).trans (hc j u hu)⟩
  obtain ⟨x, hx⟩ : ∃ x, xs[j]? = some x := ⟨_, List.getElem?_eq_getElem (by have := (List.getElem?_eq_some_iff.1 hu).1; unfold cb at this; simpa using this)⟩
  have hu' : (cb xs)[j]? = some (.int .u8 x.toNat) := by
    unfold cb
    rw [List.getElem?_map, hx]
    rfl
  have hcj := hc j _ hu'
  intro e2
  have hs := spotF hcj
  rw [hs, show (ad.add j).block = g from e2, hb.cell] at hcj
  generalize (ad.add j).off = o at hcj
  match o, hcj with
  | 0, h => cases h
  | 1, h => cases h
  | 2, h => cases h
  | 3, h => cases h
  | o + 4, h => simp at h
theorem ItV.keepT {w W : World} {g : Nat} {t : TypeId} {A B : Option Addr} {n c m d : Nat} {s' r' : Int} {y : It} {v u : Value} {s r : Int} (h : ItV w y v u s r) (hb : Blk w g t [.slice A n c, .slice B m d, .int .i64 s', .int .i64 r']) (hW : Only (· = g) w W) : ItV W y v u s r := ⟨src_item hb h.1 hW, src_item hb h.2.1 hW, h.2.2⟩

set_option maxRecDepth 100000 in
set_option maxHeartbeats 12800000 in
theorem Get_c (w : World) (bl : Nat) (A0 : Option Addr) (n0 c0 : Nat) (root : Int) (l : List Nm) (K : Option Addr) (kn kc : Nat) (key : Bytes) (hb : Blk w bl 22 [.slice A0 n0 c0]) (h : Nms w (.slice A0 n0 c0) l) (hf : FewN l) (hv : Src w (.slice K kn kc) key) (hok : ∀ ref x, Vis l root ref → nodeP l ref = some x → okP x) :
    Calls Try.prog 19 #[srcV bl, .int .i64 root, .slice K kn kc] w (GetSays w (getP l key root)) := by
  obtain ⟨w1, hw1⟩ : ∃ w1, w1 = w.alloc (.cells #[.slice none 0 0, .slice none 0 0, .int .i64 0, .int .i64 0] 60) := ⟨_, rfl⟩
  obtain ⟨b1, hb1⟩ : ∃ b1, b1 = w.heap.size := ⟨_, rfl⟩
  have HB : Hid (Blk w1 b1 60 [.slice none 0 0, .slice none 0 0, .int .i64 0, .int .i64 0]) := Lib.hid (by rw [hw1, hb1]; exact Blk.new w _ [.slice none 0 0, .slice none 0 0, .int .i64 0, .int .i64 0])
  have ho1 : Only (w.heap.size ≤ ·) w w1 := by rw [hw1]; exact (Only.refl _ w).alloc (fun _ h => h) _
  have HO := Lib.hid ho1
  have HBN : Hid (w.heap.size ≤ b1) := Lib.hid (by omega)
  have HEQ : Hid (w1 = w.alloc (.cells #[.slice none 0 0, .slice none 0 0, .int .i64 0, .int .i64 0] 60) ∧ b1 = w.heap.size) := Lib.hid ⟨hw1, hb1⟩
  have HP := Lib.hid (Path_c w1 bl A0 n0 c0 root l K kn kc key (hb.later ho1) (h.later ho1) hf (hv.later ho1) hok)
  have HV := Lib.hid (hv.later ho1)
  obtain ⟨R, hR⟩ : ∃ R, R = downP l (chP key) 12 root := ⟨_, rfl⟩
  have HL := Lib.hid (fun h0 => down_last (l := l) (ch := chP key) (root := root) (fun x h1 h2 => by
      unfold chP
      rw [if_neg (fun h => by rw [h1] at h; cases h)]
      exact sideN_le _ _ _ (List.length_pos_iff.2 h2)) 12 root Vis.root h0)
  have HOK := Lib.hid hok
  have HSL : Hid (∀ ref x, nodeP l ref = some x → x.its.length ≤ 1000) := Lib.hid fun ref x hx => by
    have := hf.get ref
    rw [hx] at this
    exact this.1
  obtain ⟨G, hG⟩ : ∃ G, G = getP l key root := ⟨_, rfl⟩
  rw [← hG]
  unfold getP at hG
  rw [← hR] at HP HL hG
  have HG := Lib.hid hG
  clear hw1 hb1 ho1 hb h hf hv hok hR hG
  go_enter Try.func19, Try.ntmps19
  go_upto_region 1 with (fail)
  rw [← HEQ.out.1, ← HEQ.out.2]
  go_upto_region 2 with (go_at_call 11; (with_reducible refine HP.out.mono ?_); rintro e w2 ⟨⟨A, n, c, er, path, rfl, he, hp⟩, ho⟩; subst he; have HSP := Lib.hid hp; replace HB := Lib.hid (HB.out.later ho); replace HV := Lib.hid (HV.out.later ho); replace HO := Lib.hid (on_new HO.out ho); clear hp ho)
  obtain ⟨c0, c1, c2, c3⟩ := HB.out.four
  have f0 := HB.out.frozen 0
  have f1 := HB.out.frozen 1
  have f2 := HB.out.frozen 2
  have f3 := HB.out.frozen 3
  by_cases h0 : er = 0
  · subst h0
    obtain ⟨s, hs1, hs2, ref, hvi, hno⟩ := HL.out rfl
    have HS1 := Lib.hid hs1
    have hnl := HSP.out.len
    have hpos : 0 < n := by
      rw [hnl]
      cases path with
      | nil => simp at hs1
      | cons a b => simp
    have hcap := HSP.out.cap
    obtain ⟨j, rfl⟩ : ∃ j, n = j + 1 := ⟨n - 1, by omega⟩
    obtain ⟨b, off, y, Q, R, q1, q2, r1, r2, rfl, hb, hy, p0, p1, p2, p3, p4, hnd⟩ := sps_at HSP.out (k := j) (by omega)
    obtain rfl : y = s := by
      rw [List.getLast?_eq_getElem?, ← hnl, Nat.add_sub_cancel] at hs1
      exact Option.some.inj (hy.symm.trans hs1)
    obtain ⟨ref', x, kk⟩ := y
    simp only at p0 p1 p2 p3 p4 hnd hno hs2 HS1
    have HND := Lib.hid hnd
    have HNO := Lib.hid hno
    have HRI := Lib.hid (HOK.out ref x hvi hno hs2)
    have HLE := Lib.hid hs2
    obtain ⟨f, hf⟩ : ∃ f, f = x.leaf := ⟨_, rfl⟩
    rw [← hf] at p1 HND
    have hjn : (((j + 1 : Nat) : Int) - 1) = (j : Int) := by omega
    have hj63 : j ≤ 9223372036854775806 := by omega
    have HN1 : Hid (q1 ≤ 100000) := Lib.hid (by have h1 := HND.out.2.1.len; have h2 := HSL.out ref x hno; omega)
    have HQL : Hid (q1 = x.its.length) := Lib.hid HND.out.2.1.len
    clear hs1 hs2 hvi hno hy hnd hnl hf hb
    go_upto_region 5 with (fail)
    obtain ⟨w3, hw3⟩ : ∃ x, x = w2.alloc (.cells #[.bool f, .slice Q q1 q2, .slice R r1 r2] 70) := ⟨_, rfl⟩
    obtain ⟨b3, hb3⟩ : ∃ x, x = w2.heap.size := ⟨_, rfl⟩
    have HB3 : Hid (Blk w3 b3 70 [.bool f, .slice Q q1 q2, .slice R r1 r2]) := Lib.hid (by rw [hw3, hb3]; exact Blk.new w2 _ [.bool f, .slice Q q1 q2, .slice R r1 r2])
    have HX3 : Hid (Only (w2.heap.size ≤ ·) w2 w3) := Lib.hid (by rw [hw3]; exact (Only.refl _ w2).alloc (fun _ h => h) _)
    have HEQ3 : Hid (w3 = w2.alloc (.cells #[.bool f, .slice Q q1 q2, .slice R r1 r2] 70) ∧ b3 = w2.heap.size) := Lib.hid ⟨hw3, hb3⟩
    replace HND := Lib.hid (HND.out.later HX3.out)
    replace HB := Lib.hid (HB.out.later HX3.out)
    replace HV := Lib.hid (HV.out.later HX3.out)
    replace HO := Lib.hid (on_new HO.out HX3.out)
    clear hw3 hb3 c0 c1 c2 c3 f0 f1 f2 f3 p0 p1 p2 p3 p4
    rw [← HEQ3.out.1, ← HEQ3.out.2]
    obtain ⟨k0, k1, k2⟩ := HB3.out.tri
    go_upto_region 6 with (go_at_call 24; (with_reducible refine (Find_n _ f Q R q1 q2 r1 r2 _ x key HND.out HV.out HN1.out).mono ?_); rintro e w4 ⟨i, bb, rfl, hf, ho⟩; obtain ⟨hi, hbb⟩ := found_is HRI.out hf; have HI := Lib.hid hi; have HBB := Lib.hid hbb; have HFD := Lib.hid hf; replace HND := Lib.hid (HND.out.later ho); replace HB3 := Lib.hid (HB3.out.later ho); replace HB := Lib.hid (HB.out.later ho); replace HO := Lib.hid (on_new HO.out ho); clear hf hi hbb ho)
    clear k0 k1 k2
    obtain ⟨k0, k1, k2⟩ := HB3.out.tri
    obtain ⟨c0, c1, c2, c3⟩ := HB.out.four
    have f0 := HB.out.frozen 0
    have f1 := HB.out.frozen 1
    have f2 := HB.out.frozen 2
    have f3 := HB.out.frozen 3
    cases bb with
    | false =>
      have HG1 : Hid (G = (0, none)) := Lib.hid (by
        rw [HG.out, if_pos trivial, HS1.out]
        show (0, if hasP x.its key = true then _ else none) = _
        rw [if_neg (fun h => by rw [← HBB.out] at h; cases h)])
      go_wp2_with (fail)
      have HF1 : Hid (Blk ((((w4.setCell ⟨b1, 0, none⟩ (.slice none 0 0)).setCell ⟨b1, 1, none⟩ (.slice none 0 0)).setCell ⟨b1, 2, none⟩ (.int .i64 0)).setCell ⟨b1, 3, none⟩ (.int .i64 0)) b1 60 [.slice none 0 0, .slice none 0 0, .int .i64 0, .int .i64 0]) := Lib.hid ((((HB.out.set_ 0 _).set_ 1 _).set_ 2 _).set_ 3 _)
      have HF2 : Hid (Only (fun k => k = b1) w4 ((((w4.setCell ⟨b1, 0, none⟩ (.slice none 0 0)).setCell ⟨b1, 1, none⟩ (.slice none 0 0)).setCell ⟨b1, 2, none⟩ (.int .i64 0)).setCell ⟨b1, 3, none⟩ (.int .i64 0))) := Lib.hid (((((Only.refl (fun k => k = b1) w4).setCell (p := ⟨b1, 0, none⟩) rfl _).setCell (p := ⟨b1, 1, none⟩) rfl _).setCell (p := ⟨b1, 2, none⟩) rfl _).setCell (p := ⟨b1, 3, none⟩) rfl _)
      exact bodyPost_ret (v := .tuple #[.agg #[.slice none 0 0, .slice none 0 0, .int .i64 0, .int .i64 0], .bool false, .int .i64 0]) (results_cell3 rfl rfl rfl rfl (load_item HF1.out)) rfl ⟨⟨_, _, _, _, _, _, _, _, _, _, rfl, by rw [HG1.out], by rw [HG1.out]; rfl, by rw [HG1.out]; exact ItV.none_ _⟩, HO.out.trans (HF2.out.mono fun k hk => by subst hk; exact HBN.out)⟩
    | true =>
      obtain ⟨y, hy, _⟩ := HFD.out.2.2.2.1 rfl
      have hiq : i < q1 := by rw [HQL.out]; exact (List.getElem?_eq_some_iff.1 hy).1
      have HG1 : Hid (G = (0, some y)) := Lib.hid (by
        rw [HG.out, if_pos trivial, HS1.out]
        show (0, if hasP x.its key = true then x.its[findP x.its key]? else none) = _
        rw [if_pos HBB.out.symm, ← HI.out, hy])
      obtain ⟨yb, yo, y', YP, YQ, yp, yq, rfl, hyb, hy', z0, z1, z2, z3, zs1, zs2⟩ := its_at HND.out.2.1 hiq
      obtain rfl : y' = y := Option.some.inj (hy'.symm.trans hy)
      have HIV : Hid (ItV w4 y' (.slice YP y'.1.length yp) (.slice YQ y'.2.1.length yq) y'.2.2.1 y'.2.2.2) := Lib.hid ⟨zs1, zs2, rfl, rfl⟩
      obtain ⟨yk, yv, ys, yr⟩ := y'
      simp only at z0 z1 z2 z3 HIV
      have hi63 : i ≤ 100000 := by have := HN1.out; omega
      clear hy hy' zs1 zs2 hyb
      go_wp2_with (fail)
      have HF1 : Hid (Blk ((((w4.setCell ⟨b1, 0, none⟩ (.slice YP yk.length yp)).setCell ⟨b1, 1, none⟩ (.slice YQ yv.length yq)).setCell ⟨b1, 2, none⟩ (.int .i64 ys)).setCell ⟨b1, 3, none⟩ (.int .i64 yr)) b1 60 [.slice YP yk.length yp, .slice YQ yv.length yq, .int .i64 ys, .int .i64 yr]) := Lib.hid ((((HB.out.set_ 0 _).set_ 1 _).set_ 2 _).set_ 3 _)
      have HF2 : Hid (Only (fun k => k = b1) w4 ((((w4.setCell ⟨b1, 0, none⟩ (.slice YP yk.length yp)).setCell ⟨b1, 1, none⟩ (.slice YQ yv.length yq)).setCell ⟨b1, 2, none⟩ (.int .i64 ys)).setCell ⟨b1, 3, none⟩ (.int .i64 yr))) := Lib.hid (((((Only.refl (fun k => k = b1) w4).setCell (p := ⟨b1, 0, none⟩) rfl _).setCell (p := ⟨b1, 1, none⟩) rfl _).setCell (p := ⟨b1, 2, none⟩) rfl _).setCell (p := ⟨b1, 3, none⟩) rfl _)
      exact bodyPost_ret (v := .tuple #[.agg #[.slice YP yk.length yp, .slice YQ yv.length yq, .int .i64 ys, .int .i64 yr], .bool true, .int .i64 0]) (results_cell3 rfl rfl rfl rfl (load_item HF1.out)) rfl ⟨⟨_, _, _, _, _, _, _, _, _, _, rfl, by rw [HG1.out], by rw [HG1.out]; rfl, by rw [HG1.out]; exact HIV.out.keepT HB.out HF2.out⟩, HO.out.trans (HF2.out.mono fun k hk => by subst hk; exact HBN.out)⟩
  · have HG1 : Hid (G = (er, none)) := Lib.hid (by rw [HG.out, if_neg h0])
    go_wp2_with (fail)
    have HF1 : Hid (Blk ((((w2.setCell ⟨b1, 0, none⟩ (.slice none 0 0)).setCell ⟨b1, 1, none⟩ (.slice none 0 0)).setCell ⟨b1, 2, none⟩ (.int .i64 0)).setCell ⟨b1, 3, none⟩ (.int .i64 0)) b1 60 [.slice none 0 0, .slice none 0 0, .int .i64 0, .int .i64 0]) := Lib.hid ((((HB.out.set_ 0 _).set_ 1 _).set_ 2 _).set_ 3 _)
    have HF2 : Hid (Only (fun k => k = b1) w2 ((((w2.setCell ⟨b1, 0, none⟩ (.slice none 0 0)).setCell ⟨b1, 1, none⟩ (.slice none 0 0)).setCell ⟨b1, 2, none⟩ (.int .i64 0)).setCell ⟨b1, 3, none⟩ (.int .i64 0))) := Lib.hid (((((Only.refl (fun k => k = b1) w2).setCell (p := ⟨b1, 0, none⟩) rfl _).setCell (p := ⟨b1, 1, none⟩) rfl _).setCell (p := ⟨b1, 2, none⟩) rfl _).setCell (p := ⟨b1, 3, none⟩) rfl _)
    exact bodyPost_ret (v := .tuple #[.agg #[.slice none 0 0, .slice none 0 0, .int .i64 0, .int .i64 0], .bool false, .int .i64 er]) (results_cell3 rfl rfl rfl rfl (load_item HF1.out)) rfl ⟨⟨_, _, _, _, _, _, _, _, _, _, rfl, by rw [HG1.out], by rw [HG1.out]; rfl, by rw [HG1.out]; exact ItV.none_ _⟩, HO.out.trans (HF2.out.mono fun k hk => by subst hk; exact HBN.out)⟩

end Go.Proofs.Ytdpdlhfjemehcaa
