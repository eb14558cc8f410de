/-
  alive.
-/
import Derived.Test.YtoghojgajpfkkaaGreatDoorBak
import Derived.Test.YtoghojgajpfkkaaGreatDoorGb
import Derived.Laws.MakeOwn
import Derived.Lib.SlBytesConst
import Derived.Lib.SmallJoins
set_option linter.unusedVariables false
namespace Go.Proofs.YtoghojgajpfkkaaGreatDoor
open Go.RowKit

theorem lit_src (w : World) (cs : Array Value) (fz : Nat × Nat) (n : Nat) (xs : Bytes) (h : cs.toList = cb xs) (hn : xs.length = n) (hl : n ≤ 1000) : Src (w.alloc (.cells cs 5 fz)) (.slice (some ⟨w.heap.size, 0, none⟩) n n) xs := by
  subst hn
  refine ⟨_, _, rfl, ⟨rfl, fun _ => ⟨_, rfl, fun j u hu => ?_⟩⟩, (fun e => by cases e), Nat.le_refl _, by omega⟩
  rw [Addr.add_mid, Nat.zero_add, cell_of_row _ w.heap.size j cs 5 fz (heap_alloc_new w _), ← hu, ← h]
  simp
/-- The leaf that is tried. -/
def x1 : Nd := ⟨true, [([97], [98], 0, 0)], []⟩
theorem x1_right : RightN ((1 : Nat) : Int) x1 := by
  refine ⟨rfl, rfl, ?_, ?_, by decide⟩
  · unfold EachR
    rw [if_pos (show x1.leaf = true from rfl)]
    intro k i hi
    match k, hi with
    | 0, hi =>
      cases hi
      show okay 1 1 1 0 0 = true
      decide
    | k + 1, hi => simp [x1] at hi
  · unfold RisesR
    rw [if_pos (show x1.leaf = true from rfl)]
    intro k y z hy hz
    match k, hz with
    | 0, hz => simp [x1] at hz
    | k + 1, hz => simp [x1] at hz
theorem x1_any : anyU x1.its = false := by decide
def P1 : Bytes := pageB ((1 : Nat) : Int) x1
def P3 : Bytes := wrapP 79 3 2 9 [7]
theorem P3_facts : P3.length = 256 ∧ (∃ T : Bytes, bodyOf P3 = 7 :: T ∧ T.length = 239) ∧ wrapE 79 3 2 9 [7] = 0 ∧ wrapB 79 3 2 9 [7] = P3 := by
  obtain ⟨hs, _⟩ := wrapP_shape (k := 79) (g := 3) (n := 2) (x := 9) (body := [7]) rfl rfl (by decide) (by decide) (by decide) (by decide)
  obtain ⟨f1, _, _, _, _, _, f7⟩ := hs.facts
  have hst : stC ((79 : Nat) : Int) ((3 : Nat) : Int) ((2 : Nat) : Int) ((9 : Nat) : Int) = fill 256 (headB 79 3 2 9) := st_fill rfl (by decide) (by decide) (by decide)
  have hw : wrapC 79 3 2 9 [7] = fill 256 (headB 79 3 2 9 ++ [7]) := by
    unfold wrapC
    rw [show stC 79 3 2 9 = fill 256 (headB 79 3 2 9) from hst]
    exact fill_write (by rw [headB_length rfl]; decide)
  refine ⟨f1, ⟨List.replicate 239 0, f7, List.length_replicate⟩, ?_, ?_⟩
  · unfold wrapE
    rw [if_pos (show (kindOk 79 && gen 3) = true from rfl), hw]
    simp [finE, fill]
  · unfold wrapB
    rw [if_pos (show (kindOk 79 && gen 3) = true from rfl), hw]
    unfold finB P3 wrapP fill
    simp
theorem P1_facts : P1.length = 256 ∧ hdV P1 = .tuple #[.agg #[.int .i64 76, .int .i64 1, .int .i64 1, .int .i64 0], .int .i64 0] ∧ DecOk P1 ∧ hdG P1 = 1 ∧ dcN P1 = x1 := by
  obtain ⟨h1, h2, h3, h4⟩ := page_back (k := 1) (x := x1) x1_right x1_any (by decide) (by decide)
  obtain ⟨hs, _⟩ := wrapP_shape (k := 76) (g := 1) (n := 1) (x := 0) (body := x1.its.flatMap (serI 1) ++ x1.kds.flatMap (serK 1)) rfl rfl (by decide) (by decide) (by decide) (by decide)
  have hw : P1 = wrapP 76 1 1 0 (x1.its.flatMap (serI 1) ++ x1.kds.flatMap (serK 1)) := pageB_wrap (k := 1) (x := x1)
  rw [← hw] at hs
  obtain ⟨f1, f2, f3, f4, f5, f6, f7⟩ := hs.facts
  refine ⟨h4, ?_, h1, h2, h3⟩
  rw [(hdV_ok f4).1]
  unfold hdOk
  rw [f2, f3, f5, f6]
  rfl
def lit15 : Bytes := [76, 1, 1, 0, 0, 0, 0, 0, 1, 0, 1, 0, 97, 98, 0]
theorem P1_take : P1.take 15 = lit15 := by decide +kernel
theorem src_at {w : World} {A : Option Addr} {n c : Nat} {xs : Bytes} (h : Src w (.slice A n c) xs) (hn : 0 < n) : ∃ bl o, A = some ⟨bl, o, none⟩ := by
  obtain ⟨A', c', e, ht, _⟩ := h
  simp only [Value.slice.injEq] at e
  obtain ⟨rfl, rfl, rfl⟩ := e
  obtain ⟨ad, ea, hcell⟩ := ht.2 hn
  have e0 := ht.src ad ea 0 (.int .u8 (xs[0]'(by omega)).toNat) (by unfold cb; rw [List.getElem?_map, List.getElem?_eq_getElem (by omega)]; rfl)
  have ee : ad.add 0 = ad := by cases ad; simp [Addr.add]
  rw [ee] at e0
  exact ⟨_, _, ea.trans (congrArg some (spotF e0))⟩
theorem enc_lit (W : World) (A : Option Addr) (c : Nat) (hN : Nod W x1 true (.slice A 1 c) (.slice none 0 0)) (hg : Gens W) :
    Calls Tryz.prog 10 #[.int .i64 1, .agg #[.bool true, .slice A 1 c, .slice none 0 0]] W fun e w' => ∃ bl o c, e = .returned (.tuple #[.slice (some ⟨bl, o, none⟩) 256 c, .int .i64 0]) ∧ Src w' (.slice (some ⟨bl, o, none⟩) 256 c) P1 ∧ Only (W.heap.size ≤ ·) W w' :=
  (Encode_c W 1 A none 1 c 0 0 true x1 hN hg (by decide) (by decide)).mono fun e w' ⟨b, hb, h⟩ => by
    have hbt := hb.2 ⟨x1_right, x1_any⟩
    subst hbt
    obtain ⟨v, rfl, hs, ho⟩ := h
    rw [if_pos rfl] at hs
    have hs0 := hs
    obtain ⟨A, c, rfl, _⟩ := hs
    have hl : (pageB 1 x1).length = 256 := P1_facts.1
    rw [hl] at hs0 ⊢
    obtain ⟨bl, o, rfl⟩ := src_at hs0 (by decide)
    exact ⟨bl, o, c, rfl, hs0, ho⟩
theorem dec_lit (W : World) (v : Value) (hs : Src W v P1) (hg : Gens W) :
    Calls Tryz.prog 6 #[v] W fun e w' => ∃ A c B d, e = .returned (.tuple #[.int .i64 1, .agg #[.bool true, .slice A 1 c, .slice B 0 d], .int .i64 0]) ∧ Nod w' x1 true (.slice A 1 c) (.slice B 0 d) ∧ Only (W.heap.size ≤ ·) W w' := by
  obtain ⟨f1, f2, f3, f4, f5⟩ := P1_facts
  refine (Decode_c W v P1 hg hs (by rw [f1]; decide)).mono ?_
  rintro e w' ⟨ok, hok, f, A, n, c, B, m, d, h1, h2, h3⟩
  obtain rfl := hok.2 f3
  rw [if_pos rfl, if_pos rfl, f4] at h1
  rw [if_pos rfl, f5] at h2
  obtain rfl : f = true := h2.1
  have hn : n = 1 := h2.2.1.len
  have hm : m = 0 := h2.2.2.len
  subst hn
  subst hm
  exact ⟨A, c, B, d, h1, h2, h3⟩
theorem of_lit (W : World) (v u : Value) (h : Src W v [97]) (h' : Src W u [98]) :
    Calls Tryz.prog 12 #[v, u] W fun e w' => ∃ A1 c1 A2 c2, e = .returned (.agg #[.slice A1 1 c1, .slice A2 1 c2, .int .i64 0, .int .i64 0]) ∧ Src w' (.slice A1 1 c1) [97] ∧ Src w' (.slice A2 1 c2) [98] ∧ Only (W.heap.size ≤ ·) W w' :=
  (Of_c W v u [97] [98] h h' (by decide) (by decide)).mono fun e w' ⟨k, l, h1, h2, h3, h4⟩ => by
    have s2 := h2.src
    have s3 := h3.src
    obtain ⟨A1, c1, rfl, _⟩ := h2
    obtain ⟨A2, c2, rfl, _⟩ := h3
    exact ⟨A1, c1, A2, c2, h1, s2, s3, h4⟩
theorem x1_nod (w : World) (A1 A2 : Option Addr) (c1 c2 : Nat) (o : Obj) (h1 : Src w (.slice A1 1 c1) [97]) (h2 : Src w (.slice A2 1 c2) [98]) :
    Nod ((w.alloc (.cells #[.slice A1 1 c1, .slice A2 1 c2, .int .i64 0, .int .i64 0] 44)).alloc o) x1 true (.slice (some ⟨w.heap.size, 0, none⟩) 1 1) (.slice none 0 0) := by
  have hb := (Blk.new w 44 [.slice A1 1 c1, .slice A2 1 c2, .int .i64 0, .int .i64 0]).alloc o
  have ho : Only (w.heap.size ≤ ·) w ((w.alloc (.cells #[.slice A1 1 c1, .slice A2 1 c2, .int .i64 0, .int .i64 0] 44)).alloc o) := ((Only.refl _ w).alloc (fun _ h => h) _).alloc (fun _ h => h) _
  refine ⟨rfl, ⟨_, 1, [.slice A1 1 c1, .slice A2 1 c2, .int .i64 0, .int .i64 0], rfl, Den.single ⟨A1, c1, A2, c2, rfl, h1.later ho, h2.later ho⟩, Raw.blk (rest := []) (t := 44) (by rw [List.append_nil]; exact hb), (fun e => by cases e), Nat.le_refl _, by omega⟩, Rw.nil_ _⟩
theorem wrap_lit (W : World) (u : Value) (hs : Src W u [7]) (hg : Gens W) :
    Calls Tryz.prog 14 #[.agg #[.int .i64 79, .int .i64 3, .int .i64 2, .int .i64 9], u] W fun e w' => ∃ A c, e = .returned (.tuple #[.slice A 256 c, .int .i64 0]) ∧ Src w' (.slice A 256 c) P3 ∧ Only (W.heap.size ≤ ·) W w' :=
  (Wrap_c W 79 3 2 9 u [7] hg hs (by unfold I64; omega) (by unfold I64; omega) (by unfold I64; omega) (by unfold I64; omega)).mono fun e w' ⟨v, h1, h2, h3⟩ => by
    obtain ⟨f1, f2, f3, f4⟩ := P3_facts
    rw [f3] at h1
    rw [f4] at h2
    have h20 := h2
    obtain ⟨A, c, rfl, _⟩ := h2
    rw [f1] at h1 h20
    exact ⟨A, c, h1, h20, h3⟩
theorem body_lit (W : World) (v : Value) (hs : Src W v P3) (hg : Gens W) :
    Calls Tryz.prog 16 #[v] W fun e w' => ∃ bl o c, e = .returned (.slice (some ⟨bl, o, none⟩) 240 c) ∧ w'.cell? ⟨bl, o, none⟩ = some (.int .u8 7) ∧ Only (W.heap.size ≤ ·) W w' :=
  (Body_c W v P3 hg hs (by rw [P3_facts.1]; decide)).mono fun e w' ⟨v, h1, h2, h3⟩ => by
    obtain ⟨T, hT, hTl⟩ := P3_facts.2.1
    rw [hT] at h2
    obtain ⟨A, c, rfl, ht, _⟩ := h2
    rw [List.length_cons, hTl] at h1
    obtain ⟨ad, rfl, hcell⟩ := ht.2 (by rw [List.length_cons]; exact Nat.succ_pos _)
    have e0 := hcell 0 (.int .u8 7) rfl
    have ee : ad.add 0 = ad := by cases ad; simp [Addr.add]
    rw [ee] at e0
    have hsp := spotF e0
    rw [hsp] at e0
    refine ⟨ad.block, ad.off, c, ?_, e0, h3⟩
    rw [h1]
    rw [hsp]
set_option maxRecDepth 100000 in
set_option maxHeartbeats 25600000 in
theorem alive_c (w : World) (hg : Gens w) : Calls Tryz.prog 5 #[] w (Told w (.bool true)) := by
  have kc := fun (w : World) (C : Array Value) (n c : Nat) => Lib.run_convert_bytes_const (P := Tryz.prog) w 22 5 C n c Tryz.underlying22 Tryz.underlying5
  have kc2 := fun (w : World) (o : Obj) (C : Array Value) (n c : Nat) => Joins.run_convert_bytes_const_at (P := Tryz.prog) (w.alloc o) 22 5 C n c (w.heap.size + 1) (by simp) Tryz.underlying22 Tryz.underlying5
  obtain ⟨w2, hw2⟩ : ∃ w2, w2 = (w.alloc (.cells #[.int .u8 97] 5 (1, 2))).alloc (.cells #[.int .u8 98] 5 (1, 2)) := ⟨_, rfl⟩
  have HS1 : Hid (Src w2 (.slice (some ⟨w.heap.size, 0, none⟩) 1 1) [97]) := Lib.hid (by rw [hw2]; exact (lit_src w #[.int .u8 97] (1, 2) 1 [97] rfl rfl (by decide)).later ((Only.refl _ _).alloc (fun _ h => h) _))
  have HS2 : Hid (Src w2 (.slice (some ⟨w.heap.size + 1, 0, none⟩) 1 1) [98]) := Lib.hid (by
    rw [hw2]
    have := lit_src (w.alloc (.cells #[.int .u8 97] 5 (1, 2))) #[.int .u8 98] (1, 2) 1 [98] rfl rfl (by decide)
    simpa using this)
  have HO : Hid (Only (w.heap.size ≤ ·) w w2) := Lib.hid (by rw [hw2]; exact ((Only.refl _ w).alloc (fun _ h => h) _).alloc (fun _ h => h) _)
  have HG := Lib.hid hg
  clear hg
  go_enter Tryz.func5, Tryz.ntmps5
  go_upto_region 2 with (go_at_call 12; (rw [← hw2]); (with_reducible refine (of_lit _ _ _ HS1.out HS2.out).mono ?_); rintro e w3 ⟨A1, c1, A2, c2, rfl, s1, s2, ho⟩; have HK := Lib.hid (And.intro s1 s2); (replace HO := Lib.hid (on_new HO.out ho)); clear s1 s2 ho kc kc2 HS1 HS2)
  clear hw2
  obtain ⟨n1, hn1⟩ : ∃ x, x = w3.heap.size + 1 := ⟨_, rfl⟩
  obtain ⟨w4, hw4⟩ : ∃ x, x = (w3.alloc (.cells #[.slice A1 1 c1, .slice A2 1 c2, .int .i64 0, .int .i64 0] 44)).alloc (.cells #[.bool true, .slice (some ⟨w3.heap.size, 0, none⟩) 1 1, .slice none 0 0] 28) := ⟨_, rfl⟩
  obtain ⟨NA, hNA⟩ : ∃ x, x = some (⟨w3.heap.size, 0, none⟩ : Addr) := ⟨_, rfl⟩
  have HN1 : Hid (Nod w4 x1 true (.slice NA 1 1) (.slice none 0 0)) := Lib.hid (by rw [hw4, hNA]; exact x1_nod w3 A1 A2 c1 c2 _ HK.out.1 HK.out.2)
  have HB1 : Hid (Blk w4 n1 28 [.bool true, .slice NA 1 1, .slice none 0 0]) := Lib.hid (by
    rw [hw4, hNA, hn1]
    have := Blk.new (w3.alloc (.cells #[.slice A1 1 c1, .slice A2 1 c2, .int .i64 0, .int .i64 0] 44)) 28 [.bool true, .slice (some ⟨w3.heap.size, 0, none⟩) 1 1, .slice none 0 0]
    simpa using this)
  replace HO : Hid (Only (w.heap.size ≤ ·) w w4) := Lib.hid (by rw [hw4]; exact (HO.out.alloc (fun _ h => h) _).alloc (fun _ h => h) _)
  rw [← hNA] at hw4
  rw [← hNA, ← hw4, ← hn1]
  clear hw4 hNA hn1 HK
  obtain ⟨x0, x1c, x2⟩ := HB1.out.tri
  go_upto_region 3 with (go_at_call 10; (with_reducible refine (enc_lit _ NA 1 HN1.out (HG.out.later HO.out)).mono ?_); rintro e w5 ⟨eb, eo, ec, rfl, hs, ho⟩; have HE := Lib.hid hs; (replace HN1 := Lib.hid (HN1.out.later ho)); (replace HB1 := Lib.hid (HB1.out.later ho)); (replace HO := Lib.hid (on_new HO.out ho)); clear hs ho x0 x1c x2)
  have hec : (256 : Int) ≤ (ec : Int) ∧ 256 ≤ ec := by
    obtain ⟨A', c', e, _, _, hc, _⟩ := HE.out
    simp only [Value.slice.injEq] at e
    have hl : P1.length = 256 := P1_facts.1
    omega
  obtain ⟨hec1, hec2⟩ := hec
  go_upto_region 4 with (go_at_call 6; (with_reducible refine (dec_lit _ _ HE.out (HG.out.later HO.out)).mono ?_); rintro e w6 ⟨DA, dc, DB, dd, rfl, hs, ho⟩; have HN2 := Lib.hid hs; (replace HE := Lib.hid (HE.out.later ho)); (replace HN1 := Lib.hid (HN1.out.later ho)); (replace HB1 := Lib.hid (HB1.out.later ho)); (replace HO := Lib.hid (on_new HO.out ho)); clear hs ho)
  obtain ⟨n2, hn2⟩ : ∃ x, x = w6.heap.size := ⟨_, rfl⟩
  obtain ⟨w7, hw7⟩ : ∃ x, x = w6.alloc (.cells #[.bool true, .slice DA 1 dc, .slice DB 0 dd] 28) := ⟨_, rfl⟩
  have ha : Only (w6.heap.size ≤ ·) w6 w7 := by rw [hw7]; exact (Only.refl _ _).alloc (fun _ h => h) _
  have HB2 : Hid (Blk w7 n2 28 [.bool true, .slice DA 1 dc, .slice DB 0 dd]) := Lib.hid (by rw [hw7, hn2]; exact Blk.new w6 28 _)
  replace HE := Lib.hid (HE.out.later ha)
  replace HN1 := Lib.hid (HN1.out.later ha)
  replace HN2 := Lib.hid (HN2.out.later ha)
  replace HB1 := Lib.hid (HB1.out.later ha)
  replace HO := Lib.hid (on_new HO.out ha)
  rw [← hw7, ← hn2]
  clear hw7 hn2 ha
  have HHD : Hid (∀ W, Only (w7.heap.size ≤ ·) w7 W → Calls Tryz.prog 13 #[.slice (some ⟨eb, eo, none⟩) 256 ec] W (Told W (.tuple #[.agg #[.int .i64 76, .int .i64 1, .int .i64 1, .int .i64 0], .int .i64 0]))) := Lib.hid fun W hW => by
    have := HeadOf_c W _ P1 (HG.out.later (on_new HO.out hW)) (HE.out.later hW) (by rw [P1_facts.1]; decide)
    rwa [P1_facts.2.1] at this
  go_upto_region 5 with (go_at_call 13; (with_reducible refine (HHD.out _ (Only.refl _ _)).mono ?_); rintro e w8 ⟨rfl, ho⟩; (replace HE := Lib.hid (HE.out.later ho)); (replace HN1 := Lib.hid (HN1.out.later ho)); (replace HN2 := Lib.hid (HN2.out.later ho)); (replace HB1 := Lib.hid (HB1.out.later ho)); (replace HB2 := Lib.hid (HB2.out.later ho)); (replace HO := Lib.hid (on_new HO.out ho)); clear ho)
  obtain ⟨n3, hn3⟩ : ∃ x, x = w8.heap.size := ⟨_, rfl⟩
  obtain ⟨w9, hw9⟩ : ∃ x, x = w8.alloc (.cells #[.int .i64 76, .int .i64 1, .int .i64 1, .int .i64 0] 47) := ⟨_, rfl⟩
  have ha : Only (w8.heap.size ≤ ·) w8 w9 := by rw [hw9]; exact (Only.refl _ _).alloc (fun _ h => h) _
  have HB3 : Hid (Blk w9 n3 47 [.int .i64 76, .int .i64 1, .int .i64 1, .int .i64 0]) := Lib.hid (by rw [hw9, hn3]; exact Blk.new w8 47 _)
  replace HE := Lib.hid (HE.out.later ha)
  replace HN1 := Lib.hid (HN1.out.later ha)
  replace HN2 := Lib.hid (HN2.out.later ha)
  replace HB1 := Lib.hid (HB1.out.later ha)
  replace HB2 := Lib.hid (HB2.out.later ha)
  replace HO := Lib.hid (on_new HO.out ha)
  rw [← hw9, ← hn3]
  clear hw9 hn3 ha HHD
  have HL7 : Hid (Src (w9.alloc (.cells #[.int .u8 7] 5)) (.slice (some ⟨w9.heap.size, 0, none⟩) 1 1) [7]) := Lib.hid (lit_src w9 #[.int .u8 7] (0, 0) 1 [7] rfl rfl (by decide))
  have HA9 : Hid (Only (w9.heap.size ≤ ·) w9 (w9.alloc (.cells #[.int .u8 7] 5))) := Lib.hid ((Only.refl _ _).alloc (fun _ h => h) _)
  go_upto_region 6 with (go_at_call 14; (with_reducible refine (wrap_lit _ _ HL7.out (HG.out.later (on_new HO.out HA9.out))).mono ?_); rintro e wa ⟨WA, wc, rfl, hs, ho1⟩; have HWP := Lib.hid hs; have ho := on_new HA9.out ho1; (replace HE := Lib.hid (HE.out.later ho)); (replace HN1 := Lib.hid (HN1.out.later ho)); (replace HN2 := Lib.hid (HN2.out.later ho)); (replace HB1 := Lib.hid (HB1.out.later ho)); (replace HB2 := Lib.hid (HB2.out.later ho)); (replace HB3 := Lib.hid (HB3.out.later ho)); (replace HO := Lib.hid (on_new HO.out ho)); clear hs ho ho1)
  have HE15 : Hid (∀ W, Only (wa.heap.size ≤ ·) wa W → Src W (.slice (some ⟨eb, eo, none⟩) 15 ec) lit15) := Lib.hid fun W hW => by
    have h := src_part (HE.out.later hW) (a := 0) (z := 15) (by omega) (by omega)
    rw [List.drop_zero, P1_take] at h
    exact h
  have HLT : Hid (Src (wa.alloc (.cells #[.int .u8 76, .int .u8 1, .int .u8 1, .int .u8 0, .int .u8 0, .int .u8 0, .int .u8 0, .int .u8 0, .int .u8 1, .int .u8 0, .int .u8 1, .int .u8 0, .int .u8 97, .int .u8 98, .int .u8 0] 5)) (.slice (some ⟨wa.heap.size, 0, none⟩) 15 15) lit15) := Lib.hid (lit_src wa _ (0, 0) 15 lit15 rfl rfl (by decide))
  have HE16 := Lib.hid (HE15.out _ ((Only.refl _ wa).alloc (fun _ h => h) (.cells #[.int .u8 76, .int .u8 1, .int .u8 1, .int .u8 0, .int .u8 0, .int .u8 0, .int .u8 0, .int .u8 0, .int .u8 1, .int .u8 0, .int .u8 1, .int .u8 0, .int .u8 97, .int .u8 98, .int .u8 0] 5)))
  have HSM : Hid (∀ W, Only (wa.heap.size ≤ ·) wa W → Calls Tryz.prog 15 #[.agg #[.bool true, .slice NA 1 1, .slice none 0 0], .agg #[.bool true, .slice DA 1 dc, .slice DB 0 dd]] W (Told W (.bool true))) := Lib.hid fun W hW => NSame_eq W true NA none DA DB 1 1 0 0 dc dd x1 (HN1.out.later hW) (HN2.out.later hW) (by decide) (by decide)
  have HBD : Hid (∀ W, Only (wa.heap.size ≤ ·) wa W → Calls Tryz.prog 16 #[.slice WA 256 wc] W fun e w' => ∃ bl o c, e = .returned (.slice (some ⟨bl, o, none⟩) 240 c) ∧ w'.cell? ⟨bl, o, none⟩ = some (.int .u8 7) ∧ Only (W.heap.size ≤ ·) W w') := Lib.hid fun W hW => body_lit W _ (HWP.out.later hW) (HG.out.later (on_new HO.out hW))
  have HLW : Hid (Only (wa.heap.size ≤ ·) wa wa) := Lib.hid (Only.refl _ _)
  clear HE HN1 HN2 HWP HL7 HA9
  go_wp2_with (first
    | (go_at_call 11; (with_reducible refine (Equal_b _ _ _ lit15 lit15 true HE16.out HLT.out (by simp)).mono ?_); rintro e w' ⟨rfl, rfl⟩; (obtain ⟨x0, x1c, x2⟩ := (HB1.out.alloc (.cells #[.int .u8 76, .int .u8 1, .int .u8 1, .int .u8 0, .int .u8 0, .int .u8 0, .int .u8 0, .int .u8 0, .int .u8 1, .int .u8 0, .int .u8 1, .int .u8 0, .int .u8 97, .int .u8 98, .int .u8 0] 5)).tri); (obtain ⟨y0, y1, y2⟩ := (HB2.out.alloc (.cells #[.int .u8 76, .int .u8 1, .int .u8 1, .int .u8 0, .int .u8 0, .int .u8 0, .int .u8 0, .int .u8 0, .int .u8 1, .int .u8 0, .int .u8 1, .int .u8 0, .int .u8 97, .int .u8 98, .int .u8 0] 5)).tri))
    | (go_at_call 15; (with_reducible refine (HSM.out _ ((Only.refl _ _).alloc (fun _ h => h) _)).mono ?_); rintro e wb ⟨rfl, ho⟩; have HLB := Lib.hid (on_new ((Only.refl _ wa).alloc (fun _ h => h) _) ho); clear ho; (obtain ⟨z0, z1, z2, z3⟩ := (HB3.out.later HLB.out).four))
    | (go_at_call 16; (with_reducible refine (HBD.out _ HLB.out).mono ?_); rintro e wc1 ⟨bl, bo, bc, rfl, hcell, ho⟩; (replace HLB := Lib.hid (on_new HLB.out ho)); clear ho))
  go_ret
  exact ⟨rfl, on_new HO.out HLB.out⟩
end Go.Proofs.YtoghojgajpfkkaaGreatDoor
