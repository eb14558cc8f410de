/-
  The document's Ops.
-/
import Derived.Test.YtbpldkhgiddmlaaGreatDoorPup
import Derived.Test.YtbpldkhgiddmlaaGreatDoorMre
set_option linter.unusedVariables false
namespace Go.Proofs.YtbpldkhgiddmlaaGreatDoor
open Go.RowKit

theorem own_one {w : World} (cs : List Value) {t : TypeId} {z : Nat} (hz : cs.length = z) : (w.alloc (.cells cs.toArray t)).ownsRow w.heap.size t z (.slice (some ⟨w.heap.size, 0, none⟩) 1 1) 1 cs := by
  subst hz
  exact ⟨by omega, .inr ⟨w.heap.size, 1, cs.toArray, rfl, Nat.le_refl _, heap_alloc_new w _, Nat.le_refl _, by decide, by simp, by simp⟩⟩
def zKO : Value := .agg #[.int .i64 0, .int .i64 0, .int .i64 0, .slice none 0 0, .slice none 0 0]
theorem info_KO : (Tryz.prog.info? 44).map (fun i => (i.zero, i.size, i.bytes)) = some (some zKO, 5, 72) := by kernel_rfl
theorem wp_append_o {w : World} {o : Oper} {a : Act} {K : Act → World → Prop} {Q : Exit → Act → World → Prop} (s x : Operand)
    (ho : o.op = .call { callee := .builtin .append, args := #[s, x], argTypes := #[51, 51] })
    (base g n t : Nat) (C : List Value) (hs : a.eval s = .slice (some ⟨g, 0, none⟩) n t) (hown : w.ownsRow base 44 5 (.slice (some ⟨g, 0, none⟩) n t) n C)
    (b m : Nat) (news : List Value) (hx : a.eval x = .slice (some ⟨b, 0, none⟩) m m) (hl : news.length = m * 5) (hb : Blk w b 44 news) (h1 : ∀ u ∈ news, u.oneCell' = true)
    (hn : n + m ≤ 100000) (hp : 0 < n + m) (hbase : base ≤ w.heap.size)
    (h : ∀ g' t' w', w'.ownsRow base 44 5 (.slice (some ⟨g', 0, none⟩) (n + m) t') (n + m) (C ++ news) → (g' = g ∨ w.heap.size ≤ g') → Only (fun k => k = g ∨ w.heap.size ≤ k) w w' → K (a.put o.dst (.slice (some ⟨g', 0, none⟩) (n + m) t')) w') : o.wp Tryz.prog a w K Q := by
  obtain ⟨i1, hi0, hz0, hz1, hz2⟩ := info_parts info_KO
  refine k_wp_append_row s x 51 ho base 44 i1 zKO 5 72 Tryz.underlying51 hi0 hz0 hz1 hz2 (by rfl) (by omega) (.slice (some ⟨g, 0, none⟩) n t) n C hs hown (some ⟨b, 0, none⟩) m m news hx (fun e => by cases e) hl (fun ad e j u hu => by cases e; rw [Addr.add_lit, Nat.zero_add, hb.cell]; exact hu) h1 (by simp only [maxLen]; omega) (by omega) hbase (fun v' w' hr hg hb => ?_)
  obtain ⟨g', t', rfl, _⟩ := own_form hr hp
  refine h g' t' w' hr ?_ (((Only.refl (fun k => (Value.slice (some ⟨g, 0, none⟩) n t).ownBlock = some k ∨ w.heap.size ≤ k) w).grown hg (fun _ h => .inr h) (fun _ e => .inl e)).mono fun j hj => hj.imp (fun e => (Option.some.inj e).symm) id)
  rcases hb with e | e
  · exact .inl (Option.some.inj e)
  · exact .inr (Nat.le_of_eq (Option.some.inj e).symm)
theorem wpList_append_o {w : World} {ops : Array Oper} {rest : List Oper} {o : Oper} {a : Act} {Q : Exit → Act → World → Prop} (hgd : o.guard = none) (s x : Operand)
    (ho : o.op = .call { callee := .builtin .append, args := #[s, x], argTypes := #[51, 51] })
    (base g n t : Nat) (C : List Value) (hs : a.eval s = .slice (some ⟨g, 0, none⟩) n t) (hown : w.ownsRow base 44 5 (.slice (some ⟨g, 0, none⟩) n t) n C)
    (b m : Nat) (news : List Value) (hx : a.eval x = .slice (some ⟨b, 0, none⟩) m m) (hl : news.length = m * 5) (hb : Blk w b 44 news) (h1 : ∀ u ∈ news, u.oneCell' = true)
    (hn : n + m ≤ 100000) (hp : 0 < n + m) (hbase : base ≤ w.heap.size)
    (h : ∀ g' t' w', w'.ownsRow base 44 5 (.slice (some ⟨g', 0, none⟩) (n + m) t') (n + m) (C ++ news) → (g' = g ∨ w.heap.size ≤ g') → Only (fun k => k = g ∨ w.heap.size ≤ k) w w' → wpList Tryz.prog ops Q rest (a.put o.dst (.slice (some ⟨g', 0, none⟩) (n + m) t')) w') : wpList Tryz.prog ops Q (o :: rest) a w :=
  wpList_plain hgd fun K hK => wp_append_o s x ho base g n t C hs hown b m news hx hl hb h1 hn hp hbase fun g' t' w' h2 h3 h5 => hK _ _ (h g' t' w' h2 h3 h5)
/-- Bytes do not lie in a block that has no byte. -/
theorem ko_off {w : World} {q e8 : Nat} {t1 t2 : TypeId} {c1 c2 : List Value} {A : Option Addr} {n c : Nat} {xs : Bytes} (hs : Src w (.slice A n c) xs) (hb : Blk w q t1 c1) (hb2 : Blk w e8 t2 c2) (h1 : ∀ z : UInt8, ¬ .int .u8 (z.toNat : Int) ∈ c1) (h2 : ∀ z : UInt8, ¬ .int .u8 (z.toNat : Int) ∈ c2) : Stab (fun j => j = q ∨ j = e8) w (fun W => Src W (.slice A n c) xs) := by
  have key : ∀ {q : Nat} {t : TypeId} {cs : List Value}, Blk w q t cs → (∀ z : UInt8, ¬ .int .u8 (z.toNat : Int) ∈ cs) → ∀ ad, A = some ad → 0 < n → ad.block ≠ q := by
    intro q t cs hb hcs ad e hn hq
    obtain ⟨A', c', e', ht, _⟩ := hs
    simp only [Value.slice.injEq] at e'
    obtain ⟨rfl, rfl, rfl⟩ := e'
    obtain ⟨ad', e2, hc⟩ := ht.2 hn
    rw [e] at e2
    cases e2
    have hl : 0 < (cb xs).length := by rw [cb_length]; exact hn
    have h1 := hc 0 _ (List.getElem?_eq_getElem hl)
    obtain ⟨bl, o, f⟩ := ad
    obtain rfl : bl = q := hq
    cases f with
    | some f =>
      simp [World.cell?, Addr.add] at h1
      split at h1 <;> cases h1
    | none =>
      rw [Addr.add_lit, hb.cell] at h1
      have h2 := List.mem_of_getElem? h1
      simp only [cb, List.getElem_map] at h2
      exact hcs _ h2
  intro W hW
  refine src_on hs hW fun ad e hn => ?_
  have hk1 := key hb h1 ad e hn
  have hk2 := key hb2 h2 ad e hn
  obtain ⟨A', c', e', ht, _⟩ := hs
  simp only [Value.slice.injEq] at e'
  obtain ⟨rfl, rfl, rfl⟩ := e'
  have hlt : ad.block < w.heap.size := by rw [e] at ht; exact ht.block hn
  rintro ((hq | hq) | hq)
  · exact hk1 hq
  · exact hk2 hq
  · omega
theorem ko_nums {z k n rn : Nat} (h : z = n + k) (hn : n ≤ 4) (hk : k ≤ rn) (hr : rn ≤ 100) : z + 1 ≤ 100000 ∧ z + 1 + 2 ≤ 100000 ∧ 0 < z + 1 ∧ 0 < z + 1 + 2 ∧ wrap64 ((k : Int) + 1) = ((k + 1 : Nat) : Int) := by
  refine ⟨by omega, by omega, by omega, by omega, ?_⟩
  rw [IntWalk.wrap64_in _ (by omega)]
  omega
theorem ko_le4 {a b c d : Nat} (h : a < b) (h1 : b ≤ c) (h2 : c ≤ d) : a ≤ d := by omega
theorem ko_ne {z q e8 a : Nat} (e : z = q ∨ z = e8) (h : q < a) (h2 : e8 < a) (h3 : a ≤ z) : False := by omega
theorem ko_ne2 {g q e8 a b : Nat} (e : g = e8) (h : g = q ∨ b ≤ g) (h2 : e8 < a + 1) (h3 : a < q) (h4 : q < b) : False := by omega
theorem ko_srw {wb w : World} {q e8 B m t g : Nat} {C : List Value} {l : List Kop} (h : w.ownsRow B 44 5 (.slice (some ⟨g, 0, none⟩) m t) m C) (hd : ∀ W, Only (fun k => (k = q ∨ k = e8) ∨ wb.heap.size ≤ k) wb W → Den (koE.At W) l C) (hl : l.length = m) (ho : Only (fun k => k = q ∨ wb.heap.size ≤ k) wb w) (hg : ¬ g = e8) : SRw koE (fun k => k = e8) w (.slice (some ⟨g, 0, none⟩) m t) l := by
  subst hl
  refine ⟨C, fun W hW => ?_⟩
  have hr := own_on h hW (fun j hj e => by
    have h1 := World.ownsRow.lt h j hj
    obtain rfl : g = j := Option.some.inj hj
    rcases e with e | e
    · exact hg e
    · omega)
  have hden := hd W ((ho.mono fun k hk => hk.imp .inl id).trans (hW.mono fun k hk => hk.elim (fun e => .inl (.inr e)) fun h => .inr (Nat.le_trans ho.size h)))
  obtain ⟨A', c', e, hr3, h2, h3, h4, _⟩ := raw_of_own hr
  cases e
  exact ⟨hden, some ⟨g, 0, none⟩, t, rfl, hr.1, hr3, h2, h3, h4, Den.one (fun _ _ => koE.one) hden⟩
theorem ko_n4 {N : Nat} (h : N ≤ 16384) : wrap64 (4 * (N : Int)) = (N : Int) * 4 := by
  rw [IntWalk.wrap64_in _ (by omega)]
  omega
theorem ko_m1 {kx km : Nat} (h : kx = km + 1) (h2 : kx ≤ 2147483647) : wrap64 ((kx : Int) - 1) = (km : Nat) ∧ km ≤ 2147483647 := by
  refine ⟨?_, by omega⟩
  rw [IntWalk.wrap64_in _ (by omega)]
  omega
theorem ko_zero {w : World} {a : Int} : koE.At w (0, a, []) [.int .i64 0, .int .i64 a, .int .i64 0, .slice none 0 0, .slice none 0 0] := ⟨none, 0, rfl, Src.nil_ _, .inr ⟨rfl, rfl⟩⟩
theorem ko_sync {w : World} : koE.At w opS [.int .i64 3, .int .i64 0, .int .i64 0, .slice none 0 0, .slice none 0 0] := ⟨none, 0, rfl, Src.nil_ _, .inr ⟨rfl, rfl⟩⟩
theorem ko_w {w : World} {a : Int} {A : Option Addr} {n c : Nat} {xs : Bytes} (h : Src w (.slice A n c) xs) : koE.At w (2, a, xs) [.int .i64 2, .int .i64 a, .int .i64 0, .slice A n c, .slice none 0 0] := by
  obtain ⟨A', c', e, ht⟩ := h
  simp only [Value.slice.injEq] at e
  obtain ⟨rfl, rfl, rfl⟩ := e
  exact ⟨A, c, rfl, ⟨A, c, rfl, ht⟩, .inl rfl⟩
theorem ko_two {w : World} {x y : Kop} {cx cy : List Value} (hx : koE.At w x cx) (hy : koE.At w y cy) : Den (koE.At w) [x, y] (cx ++ cy) := Den.append (Den.single hx) (Den.single hy)
theorem op_nums {kx rr : Nat} (h : kx ≤ 2147483647) (hr : rr = kx % 2) : Int.tmod (kx : Int) 2 = (rr : Nat) ∧ (kx : Int) % 2 = (rr : Nat) ∧ wrap64 ((rr : Nat) : Int) = (rr : Nat) ∧ IntKind.i64.wrap ((rr : Nat) : Int) = (rr : Nat) ∧ wrap64 (4 * ((rr : Nat) : Int)) = sl (kx : Int) * 4 ∧ IntKind.i64.wrap (4 * ((rr : Nat) : Int)) = sl (kx : Int) * 4 ∧ 4 * ((rr : Nat) : Int) = sl (kx : Int) * 4 ∧ wrap64 (sl (kx : Int) * 4) = sl (kx : Int) * 4 := by
  rw [sl_pg h, ← hr]
  refine ⟨?_, by omega, IntWalk.wrap64_in _ (by omega), IntWalk.i64_in _ (by omega), ?_, ?_, by omega, IntWalk.wrap64_in _ (by omega)⟩
  · rw [Int.tmod_eq_emod_of_nonneg (Int.natCast_nonneg _)]
    omega
  · rw [IntWalk.wrap64_in _ (by omega)]
    omega
  · rw [IntWalk.i64_in _ (by omega)]
    omega
theorem op_len (fm : Bool) (N x : Int) (ws : List Wt) (a b : Bytes) : (opsK fm N x ws a b).length = ws.length + (if fm = true then 4 else 5) := by
  unfold opsK opsW opsR
  cases fm with
  | true => simp [opS]
  | false => simp [opS]
def GaveOps (e8 : Nat) (w : World) (l : List Kop) (e : Ending) (w' : World) : Prop := ∃ R t, e = .returned (.slice R l.length t) ∧ SRw koE (fun k => k = e8) w' (.slice R l.length t) l ∧ Only (w.heap.size ≤ ·) w w'
set_option maxRecDepth 100000 in
set_option maxHeartbeats 25600000 in
theorem kOps_cm (w0 w : World) (e8 : Nat) (L8 : Int) (BA8 : Option Addr) (bn8 bc8 : Nat) (RA8 : Option Addr) (rn8 rc8 : Nat) (op8 fu8 : Int) (dn8 : Bool) (he8 : w0.heap.size ≤ e8) (hb8 : Blk w e8 34 [.int .i64 L8, .slice BA8 bn8 bc8, .slice RA8 rn8 rc8, .int .i64 op8, .int .i64 fu8, .bool dn8]) (h00 : Only (w0.heap.size ≤ ·) w0 w) (g ph t : Int) (kx : Nat) (r : Int) (N : Nat) (l : Int) (A : Option Addr) (n c : Nat) (RA : Option Addr) (rn rc : Nat) (ws : List Wt) (h : Wts w0 (.slice RA rn rc) ws) (hfit : ∀ y ∈ ws, 0 ≤ y.1 ∧ y.1 ≤ 16384) (hrn : rn ≤ 100) (hkx : kx ≤ 2147483647) (hN : N ≤ 16384) (b : Bytes) (hen : ∀ W, Only (w.heap.size ≤ ·) w W → Calls Tryz.prog 48 #[.agg #[.int .i64 g, .int .i64 ph, .int .i64 t, .int .i64 (kx : Nat), .int .i64 r, .int .i64 (N : Nat), .int .i64 l, .slice A n c]] W (GaveBE W b 0)) : Calls Tryz.prog 17 #[.slice RA rn rc, .agg #[.int .i64 g, .int .i64 ph, .int .i64 t, .int .i64 (kx : Nat), .int .i64 r, .int .i64 (N : Nat), .int .i64 l, .slice A n c], .bool false] w (GaveOps e8 w (opsK false N kx ws [] b)) := by
  obtain ⟨w1, hw1⟩ : ∃ W0, W0 = w.alloc (.cells #[.int .i64 g, .int .i64 ph, .int .i64 t, .int .i64 (kx : Nat), .int .i64 r, .int .i64 (N : Nat), .int .i64 l, .slice A n c] 25) := ⟨_, rfl⟩
  have HO1 : Hid (Only (w.heap.size ≤ ·) w w1) := Lib.hid (by rw [hw1]; exact (Only.refl _ w).alloc (fun _ h => h) _)
  have HA : Hid (Blk w1 w.heap.size 25 [.int .i64 g, .int .i64 ph, .int .i64 t, .int .i64 (kx : Nat), .int .i64 r, .int .i64 (N : Nat), .int .i64 l, .slice A n c]) := Lib.hid (by rw [hw1]; exact Blk.new w 25 _)
  have HE1 := Lib.hid hw1
  obtain ⟨q0, hq0⟩ : ∃ z : Int, z = (N : Int) * 4 := ⟨_, rfl⟩
  obtain ⟨rr, hrr⟩ : ∃ z, z = kx % 2 := ⟨_, rfl⟩
  have e0 : wrap64 (4 * (N : Int)) = q0 := by rw [hq0]; exact ko_n4 hN
  obtain ⟨e1, e2, e3, e4, e5, e6, x7, x8⟩ := op_nums hkx hrr
  obtain ⟨s1, hs1⟩ : ∃ z : Int, z = sl (kx : Int) * 4 := ⟨_, rfl⟩
  rw [← hs1] at e5 e6 x7 x8
  have HE7 := Lib.hid (And.intro x7 x8)
  clear x7 x8
  obtain ⟨w2, hw2⟩ : ∃ W0, W0 = w1.alloc (.cells #[.int .i64 0, .int .i64 q0, .int .i64 0, .slice none 0 0, .slice none 0 0] 44) := ⟨_, rfl⟩
  have HO2 : Hid (Only (w1.heap.size ≤ ·) w1 w2) := Lib.hid (by rw [hw2]; exact (Only.refl _ w1).alloc (fun _ h => h) _)
  have HQ : Hid (Blk w2 w1.heap.size 44 [.int .i64 0, .int .i64 q0, .int .i64 0, .slice none 0 0, .slice none 0 0]) := Lib.hid (by rw [hw2]; exact Blk.new w1 44 _)
  have HW0 : Hid (w2.ownsRow w1.heap.size 44 5 (.slice (some ⟨w1.heap.size, 0, none⟩) 1 1) 1 [.int .i64 0, .int .i64 q0, .int .i64 0, .slice none 0 0, .slice none 0 0]) := Lib.hid (by rw [hw2]; exact own_one _ rfl)
  have HE2 := Lib.hid hw2
  have HSW := Lib.hid h.srw
  have H8 : Hid (w0.heap.size ≤ e8 ∧ e8 < w.heap.size) := Lib.hid ⟨he8, hb8.lt⟩
  have HB8 : Hid (Blk w2 e8 34 [.int .i64 L8, .slice BA8 bn8 bc8, .slice RA8 rn8 rc8, .int .i64 op8, .int .i64 fu8, .bool dn8]) := Lib.hid (hb8.only (on_new HO1.out HO2.out) (Nat.not_le.2 hb8.lt))
  have H00 := Lib.hid h00
  have HLN := Lib.hid h.len
  have HFT := Lib.hid hfit
  have HRN := Lib.hid hrn
  have HEN := Lib.hid hen
  have HQS := Lib.hid (And.intro hq0 hs1)
  have HQG := Lib.hid HO1.out.size
  have HAQ0 : w.heap.size < w1.heap.size := HA.out.lt
  clear he8 hb8 h00 h hfit hrn hen hw1 hw2 hkx hN hrr hq0 hs1
  obtain ⟨i0, i1, i2, i3, i4, i5, i6, i7⟩ := HA.out.eight
  go_enter Tryz.func17, Tryz.ntmps17
  go_upto_region 1 with (fail)
  rw [← HE1.out]
  clear HE1
  go_upto_region 2 with (fail)
  rw [← HE2.out]
  clear HE2 i0 i1 i2 i3 i4 i5 i6 i7
  generalize hq : w1.heap.size = q at HQ HW0 HQG HO2 HAQ0 ⊢
  have HO12 : Hid (Only (w.heap.size ≤ ·) w w2) := Lib.hid (HO1.out.trans (HO2.out.mono fun k hk => Nat.le_trans HQG.out hk))
  replace HA := Lib.hid (HA.out.only HO2.out (Nat.not_le.2 HAQ0))
  clear hq HO2 HO1
  obtain ⟨i0, i1, i2, i3, i4, i5, i6, i7⟩ := HA.out.eight
  go_upto_region 3 with (go_at_call 48; (with_reducible refine (HEN.out _ HO12.out).mono ?_); rintro e w3 ⟨bv, rfl, hs, ho⟩; (obtain ⟨BA, bc, rfl, ht⟩ := hs); have HBS : Hid (Src w3 (.slice BA b.length bc) b) := Lib.hid ⟨BA, bc, rfl, ht⟩; have HO3 := Lib.hid ho; clear ht ho)
  clear i0 i1 i2 i3 i4 i5 i6 i7
  obtain ⟨bl, hbl⟩ : ∃ z, z = b.length := ⟨_, rfl⟩
  rw [← hbl] at HBS ⊢
  have HBL := Lib.hid hbl
  clear hbl
  replace HA := Lib.hid (HA.out.only HO3.out (Nat.not_le.2 HA.out.lt))
  replace HQ := Lib.hid (HQ.out.only HO3.out (Nat.not_le.2 HQ.out.lt))
  replace HW0 := Lib.hid (own_later HW0.out HO3.out)
  have HX3 := Lib.hid (on_new HO12.out HO3.out)
  replace HB8 := Lib.hid (HB8.out.only HO3.out (Nat.not_le.2 HB8.out.lt))
  have HB := Lib.hid (ko_off HBS.out HQ.out HB8.out (by simp) (by simp))
  clear HO12 HO3 HBS HEN
  obtain ⟨i0, i1, i2, i3, i4, i5, i6, i7⟩ := HA.out.eight
  have HAQ : Hid (w.heap.size < q) := Lib.hid HAQ0
  obtain ⟨Z, hZ⟩ : ∃ Z, Z = List.replicate 256 z8 := ⟨_, rfl⟩
  have hmk : ∀ W : World, (Instr.makeSlice 22 (.int .i64 256) (.int .i64 256)).run Tryz.prog W = .ok (.slice (some ⟨W.heap.size, 0, none⟩) 256 256) (W.alloc (.cells Z.toArray 5)) := fun W => by
    rw [hZ]
    exact run_make8 256 (by omega) W
  have HZZ : Hid (∀ (b : Nat) (W : World), Blk W b 5 Z → Src W (.slice (some ⟨b, 0, none⟩) 256 256) z256) := Lib.hid (fun b W hW => by
    rw [hZ, show List.replicate 256 z8 = cb z256 by simp [cb, z256, z8]] at hW
    have h1 := Txt.blk (A := some ⟨b, 0, none⟩) (rest := []) (by rw [List.append_nil]; exact hW) 0 256 (by simp [z256]) (fun _ => rfl)
    exact ⟨some ⟨b, 0, none⟩, 256, rfl, h1, (fun e => by cases e), by decide, by decide⟩)
  clear hZ
  go_upto_region 9 with (fail)
  have KP : Hid (∀ W : World, Only (w3.heap.size ≤ ·) w3 W → (fun W : World => W.cell? ⟨w.heap.size, 3, none⟩ = some (.int .i64 (kx : Nat))) W) := Lib.hid (fun W hW => (HA.out.only hW (Nat.not_le.2 HA.out.lt)).cell 3)
  have HD0 : Hid (Only (w3.heap.size ≤ ·) w3 w3.drew) := Lib.hid ((Only.refl _ w3).drew)
  have HSX := Lib.hid (KP.out _ HD0.out)
  clear i0 i1 i2 i3 i4 i5 i6 i7
  have HKK : Hid (∀ (wb W : World), Only (w3.heap.size ≤ ·) w3 wb → Only (fun k => k = q ∨ wb.heap.size ≤ k) wb W → (fun W : World => W.cell? ⟨w.heap.size, 3, none⟩ = some (.int .i64 (kx : Nat))) W) := Lib.hid (fun wb W hb hW => ((HA.out.only hb (Nat.not_le.2 HA.out.lt)).only hW (fun hk => by have h := HA.out.lt; have h2 := hb.size; have h3 := HQG.out; have h4 := HAQ.out; omega)).cell 3)
  refine wp_region_list (B := [false, false, false, false, false, false, false, false, false, false]) (S := (fun W : World => W.cell? ⟨w.heap.size, 3, none⟩ = some (.int .i64 (kx : Nat)))) (by kernel_rfl) (by kernel_rfl) (by kernel_rfl) HSX.out (fun hsel hHeld => ?_)
  generalize hwz : World.drew _ = wz0 at HD0 HSX hHeld ⊢
  clear hwz
  refine oneA 0 52 hsel (h := ?_)
  simp only [Act.put, lsa, lsz, lss]
  refine oneA 1 53 hsel (h := ?_)
  simp only [Act.put, lsa, lsz, lss]
  refine oneA 2 54 hsel (h := ?_)
  simp only [Act.put, lsa, lsz, lss]
  refine oneA 3 55 hsel (h := ?_)
  simp only [Act.put, lsa, lsz, lss]
  refine oneA 4 56 hsel (h := ?_)
  simp only [Act.put, lsa, lsz, lss]
  refine wpAnyL_ready (rs := [5]) (by kernel_rfl) (by kernel_rfl) (by simp) ?_
  refine AllReadyL.cons (o := ?_) ?_ (fun K hK => ?_) AllReadyL.nil
  case refine_2 => (simp only [List.getElem?_cons_succ, List.getElem?_cons_zero]; rfl)
  go_simp
  have HZ0 : Hid (Only (w3.heap.size ≤ ·) w3 (wz0.alloc (.cells Z.toArray 5))) := Lib.hid (HD0.out.alloc (fun _ h => h) _)
  have HZB : Hid (Blk (wz0.alloc (.cells Z.toArray 5)) wz0.heap.size 5 Z) := Lib.hid (Blk.new wz0 5 Z)
  clear hHeld
  refine hK.out _ _ (KP.out _ HZ0.out) (fun hHeld => ?_)
  clear hK K
  try simp only [Act.put, lsa, lsz, lss]
  generalize hwz : (wz0.alloc (.cells Z.toArray 5)) = wb at HZ0 HZB hHeld ⊢
  clear hwz
  have HZL := Lib.hid HD0.out.size
  generalize hzb : wz0.heap.size = zb at HZB HZL ⊢
  clear hzb
  have HBb := Lib.hid (HB.out.later HZ0.out)
  have HZS : Hid (Stab (fun j => j = q ∨ j = e8) wb (fun W => Src W (.slice (some ⟨zb, 0, none⟩) 256 256) z256)) := Lib.hid ((blk_stab (D := fun j => j = q ∨ j = e8) HZB.out (fun e => ko_ne e HQ.out.lt HB8.out.lt HZL.out)).imp (fun W hW => HZZ.out zb W hW))
  refine oneA 6 58 hsel (h := ?_)
  simp only [Act.put, lsa, lsz, lss]
  refine wpAnyL_ready (rs := [7]) (by kernel_rfl) (by kernel_rfl) (by simp) ?_
  refine AllReadyL.cons (o := ?_) ?_ (fun K hK => ?_) AllReadyL.nil
  case refine_2 => (simp only [List.getElem?_cons_succ, List.getElem?_cons_zero]; rfl)
  go_simp
  have HW5 : Hid (Only (wb.heap.size ≤ ·) wb (wb.alloc (.cells #[.int .i64 2, .int .i64 s1, .int .i64 0, .slice (some ⟨zb, 0, none⟩) 256 256, .slice none 0 0] 44))) := Lib.hid ((Only.refl _ wb).alloc (fun _ h => h) _)
  have HN5 : Hid (Blk (wb.alloc (.cells #[.int .i64 2, .int .i64 s1, .int .i64 0, .slice (some ⟨zb, 0, none⟩) 256 256, .slice none 0 0] 44)) wb.heap.size 44 [.int .i64 2, .int .i64 s1, .int .i64 0, .slice (some ⟨zb, 0, none⟩) 256 256, .slice none 0 0]) := Lib.hid (Blk.new wb 44 _)
  clear hHeld
  refine hK.out _ _ (KP.out _ (on_new HZ0.out HW5.out)) (fun hHeld => ?_)
  clear hK K
  try simp only [Act.put, lsa, lsz, lss]
  generalize hwz : (wb.alloc (.cells #[.int .i64 2, .int .i64 s1, .int .i64 0, .slice (some ⟨zb, 0, none⟩) 256 256, .slice none 0 0] 44)) = w5 at HW5 HN5 hHeld ⊢
  clear hwz
  generalize hzb : wb.heap.size = nb at HN5 ⊢
  have HNB := Lib.hid hzb
  clear hzb
  refine wpAnyL_ready (rs := [8]) (by kernel_rfl) (by kernel_rfl) (by simp) ?_
  refine AllReadyL.cons (o := ?_) ?_ (fun K hK => ?_) AllReadyL.nil
  case refine_2 => (simp only [List.getElem?_cons_succ, List.getElem?_cons_zero]; rfl)
  rw [if_pos (by kernel_rfl)]
  refine wp_append_o (.tmp 52) (.tmp 59) rfl q q 1 1 [.int .i64 0, .int .i64 q0, .int .i64 0, .slice none 0 0, .slice none 0 0] rfl (own_later HW0.out (on_new HZ0.out HW5.out)) nb 1 [.int .i64 2, .int .i64 s1, .int .i64 0, .slice (some ⟨zb, 0, none⟩) 256 256, .slice none 0 0] rfl rfl HN5.out (by simp [Value.oneCell']) (by decide) (by decide) (ko_le4 HQ.out.lt HZ0.out.size HW5.out.size) (fun g6 t6 w6 hr hgn ho => ?_)
  have HR6 := Lib.hid hr
  have HG6 : Hid (g6 = q ∨ wb.heap.size ≤ g6) := Lib.hid (hgn.imp id fun h => Nat.le_trans HW5.out.size h)
  have HO6 : Hid (Only (fun k => k = q ∨ wb.heap.size ≤ k) wb w6) := Lib.hid ((HW5.out.mono fun _ h => .inr h).trans (ho.mono fun k hk => hk.imp id fun h => Nat.le_trans HW5.out.size h))
  clear hr hgn ho
  clear hHeld
  refine hK.out _ _ (HKK.out _ _ HZ0.out HO6.out) (fun hHeld => ?_)
  clear hK K
  try simp only [Act.put, lsa, lsz, lss]
  refine oneA 9 7 hsel (h := ?_)
  simp only [Act.put, lsa, lsz, lss]
  refine wpAnyL_done (by kernel_rfl) (by kernel_rfl) ?_ _
  clear hsel hHeld
  clear e4 e6 HKK KP hmk
  have HQB : Hid (q < wb.heap.size) := Lib.hid (by have h := HQ.out.lt; have h2 := HZ0.out.size; omega)
  have HXB := Lib.hid (on_new HX3.out HZ0.out)
  have HA17 : Hid (∀ W, Only (fun k => k = q ∨ wb.heap.size ≤ k) wb W → W.cell? ⟨w.heap.size, 3, none⟩ = some (.int .i64 (kx : Nat))) := Lib.hid (fun W hW => ((HA.out.only HZ0.out (Nat.not_le.2 HA.out.lt)).only hW (fun hk => by have h := HAQ.out; have h2 := HQB.out; omega)).cell 3)
  have HXO : Hid (∀ W, Only (fun k => k = q ∨ wb.heap.size ≤ k) wb W → Only (w.heap.size ≤ ·) w W) := Lib.hid (fun W hW => HXB.out.trans (hW.mono fun k hk => hk.elim (fun e => by rw [e]; exact HQG.out) fun h => Nat.le_trans HXB.out.size h))
  have HXE : Hid (∀ W, Only (fun k => (k = q ∨ k = e8) ∨ wb.heap.size ≤ k) wb W → Only (w0.heap.size ≤ ·) w0 W) := Lib.hid (fun W hW => ((H00.out.trans (HXB.out.mono fun k h => Nat.le_trans H00.out.size h)).trans (hW.mono fun k hk => by
    have h1 := H00.out.size
    have h2 := HXB.out.size
    have h3 := HQG.out
    have h4 := H8.out
    omega)))
  go_wp2
  go_loopg [7, 13] rn (fun gk s i wr => ∃ (k gj zj tj : Nat) (Cj : List Value), gk = rn - k ∧ k ≤ rn ∧ s = .slice (some ⟨gj, 0, none⟩) zj tj ∧ i = .int .i64 (k : Nat) ∧ Hid (zj = 2 + k) ∧ Hid (wr.ownsRow q 44 5 (.slice (some ⟨gj, 0, none⟩) zj tj) zj Cj) ∧ Hid (gj = q ∨ wb.heap.size ≤ gj) ∧ Hid (∀ W, Only (fun k => (k = q ∨ k = e8) ∨ wb.heap.size ≤ k) wb W → Den (koE.At W) ([((0 : Int), q0, ([] : Bytes)), ((2 : Int), s1, z256)] ++ (ws.take k).map opW) Cj) ∧ Hid (Only (fun k => k = q ∨ wb.heap.size ≤ k) wb wr))
  case atStart => exact ⟨0, g6, 2, t6, [.int .i64 0, .int .i64 q0, .int .i64 0, .slice none 0 0, .slice none 0 0, .int .i64 2, .int .i64 s1, .int .i64 0, .slice (some ⟨zb, 0, none⟩) 256 256, .slice none 0 0], rfl, Nat.zero_le _, rfl, rfl, Lib.hid rfl, HR6, HG6, Lib.hid (fun W hW => by rw [List.take_zero, List.map_nil, List.append_nil]; exact ko_two ko_zero (ko_w (HZS.out W hW))), HO6⟩
  case round =>
    obtain ⟨k, gj, zj, tj, Cj, rfl, hk, rfl, rfl, HK, HRJ, HGJ, HDJ, HOJ⟩ := hrel
    by_cases hlt : k < rn
    · obtain ⟨gx, off, y, P, cp, rfl, hy, hst⟩ := wts_at HSW.out hlt
      obtain ⟨y1, hy1⟩ : ∃ z, z = y.1 := ⟨_, rfl⟩
      obtain ⟨yl, hyl⟩ : ∃ z, z = y.2.length := ⟨_, rfl⟩
      obtain ⟨y4, hy4⟩ : ∃ z, z = y.1 * 4 := ⟨_, rfl⟩
      have HYS : Hid (∀ W, Only (w0.heap.size ≤ ·) w0 W → Src W (.slice P yl cp) y.2) := Lib.hid (fun W hW => by rw [hyl]; exact (hst W (hW.mono fun _ h => .inr h)).2.2)
      have KY : Hid (∀ W : World, Only (w.heap.size ≤ ·) w W → (fun W : World => W.cell? ⟨gx, off + k * 2, none⟩ = some (.int .i64 y1) ∧ W.cell? ⟨gx, off + k * 2 + 1, none⟩ = some (.slice P yl cp)) W) := Lib.hid (fun W hW => by have h9 := hst W ((H00.out.trans (hW.mono fun k h => Nat.le_trans H00.out.size h)).mono fun _ h => .inr h); rw [hy1, hyl]; exact ⟨h9.1, h9.2.1⟩)
      have f1 : IntKind.i64.wrap (4 * y1) = y4 := by
        have h9 := HFT.out y (List.mem_of_getElem? hy)
        rw [hy1, hy4, IntWalk.i64_in _ (by omega), Int.mul_comm]
      have HY := Lib.hid (And.intro hy (And.intro hyl hy4))
      clear hy hst hy1 hyl hy4
      have HXD : Hid (Only (w.heap.size ≤ ·) w wr.drew) := Lib.hid (HXO.out _ HOJ.out).drew
      have HOD : Hid (Only (fun k => k = q ∨ wb.heap.size ≤ k) wb wr.drew) := Lib.hid HOJ.out.drew
      have HRD : Hid (wr.drew.ownsRow q 44 5 (.slice (some ⟨gj, 0, none⟩) zj tj) zj Cj) := Lib.hid (show wr.drew.ownsRow q 44 5 (.slice (some ⟨gj, 0, none⟩) zj tj) zj Cj from HRJ.out)
      have HSY := Lib.hid (KY.out _ HXD.out)
      have HKN := Lib.hid (ko_nums HK.out (by decide) hk HRN.out)
      have hk1 := HKN.out.2.2.2.2
      go_upto_region 13 with (fail)
      refine wp_region_list (B := [false, false, false, false, false, false, false, false, false, false, false, false, false, false, false, false]) (S := (fun W : World => W.cell? ⟨gx, off + k * 2, none⟩ = some (.int .i64 y1) ∧ W.cell? ⟨gx, off + k * 2 + 1, none⟩ = some (.slice P yl cp))) (by kernel_rfl) (by kernel_rfl) (by kernel_rfl) HSY.out (fun hsel hHeld => ?_)
      generalize hwz : World.drew _ = wd0 at HXD HOD HRD HSY hHeld ⊢
      clear hwz
      refine oneA 0 67 hsel (h := ?_)
      simp only [Act.put, lsa, lsz, lss]
      refine oneA 1 68 hsel (h := ?_)
      simp only [Act.put, lsa, lsz, lss]
      refine oneA 2 69 hsel (h := ?_)
      simp only [Act.put, lsa, lsz, lss]
      refine oneA 3 70 hsel (h := ?_)
      simp only [Act.put, lsa, lsz, lss]
      refine oneA 4 71 hsel (h := ?_)
      simp only [Act.put, lsa, lsz, lss]
      refine oneA 5 72 hsel (h := ?_)
      simp only [Act.put, lsa, lsz, lss]
      refine oneA 6 73 hsel (h := ?_)
      simp only [Act.put, lsa, lsz, lss]
      refine oneA 7 74 hsel (h := ?_)
      simp only [Act.put, lsa, lsz, lss]
      refine oneA 8 75 hsel (h := ?_)
      simp only [Act.put, lsa, lsz, lss]
      refine oneA 9 76 hsel (h := ?_)
      simp only [Act.put, lsa, lsz, lss]
      refine oneA 10 77 hsel (h := ?_)
      simp only [Act.put, lsa, lsz, lss]
      refine oneA 11 78 hsel (h := ?_)
      simp only [Act.put, lsa, lsz, lss]
      refine oneA 12 79 hsel (h := ?_)
      simp only [Act.put, lsa, lsz, lss]
      refine wpAnyL_ready (rs := [13]) (by kernel_rfl) (by kernel_rfl) (by simp) ?_
      refine AllReadyL.cons (o := ?_) ?_ (fun K hK => ?_) AllReadyL.nil
      case refine_2 => (simp only [List.getElem?_cons_succ, List.getElem?_cons_zero]; rfl)
      go_simp
      have HOA : Hid (Only (wd0.heap.size ≤ ·) wd0 (wd0.alloc (.cells #[.int .i64 2, .int .i64 y4, .int .i64 0, .slice P yl cp, .slice none 0 0] 44))) := Lib.hid ((Only.refl _ wd0).alloc (fun _ h => h) _)
      have HNA : Hid (Blk (wd0.alloc (.cells #[.int .i64 2, .int .i64 y4, .int .i64 0, .slice P yl cp, .slice none 0 0] 44)) wd0.heap.size 44 [.int .i64 2, .int .i64 y4, .int .i64 0, .slice P yl cp, .slice none 0 0]) := Lib.hid (Blk.new wd0 44 _)
      clear hHeld
      refine hK.out _ _ (KY.out _ (on_new HXD.out HOA.out)) (fun hHeld => ?_)
      clear hK K
      try simp only [Act.put, lsa, lsz, lss]
      generalize hwz : (wd0.alloc (.cells #[.int .i64 2, .int .i64 y4, .int .i64 0, .slice P yl cp, .slice none 0 0] 44)) = wd1 at HOA HNA hHeld ⊢
      clear hwz
      generalize hzb : wd0.heap.size = nb at HNA ⊢
      clear hzb
      refine wpAnyL_ready (rs := [14]) (by kernel_rfl) (by kernel_rfl) (by simp) ?_
      refine AllReadyL.cons (o := ?_) ?_ (fun K hK => ?_) AllReadyL.nil
      case refine_2 => (simp only [List.getElem?_cons_succ, List.getElem?_cons_zero]; rfl)
      rw [if_pos (by kernel_rfl)]
      refine wp_append_o (.tmp 67) (.tmp 80) rfl q gj zj tj Cj rfl (own_later HRD.out HOA.out) nb 1 [.int .i64 2, .int .i64 y4, .int .i64 0, .slice P yl cp, .slice none 0 0] rfl rfl HNA.out (by simp [Value.oneCell']) HKN.out.1 HKN.out.2.2.1 (ko_le4 HQB.out HOD.out.size HOA.out.size) (fun gi ti wi hr hgn ho => ?_)
      have HRI := Lib.hid hr
      have HGI : Hid (gi = q ∨ wb.heap.size ≤ gi) := Lib.hid (hgn.elim (fun e => by rw [e]; exact HGJ.out) fun h => .inr (Nat.le_trans HOD.out.size (Nat.le_trans HOA.out.size h)))
      have HOI : Hid (Only (fun k => k = q ∨ wb.heap.size ≤ k) wb wi) := Lib.hid ((HOD.out.trans (HOA.out.mono fun k h => .inr (Nat.le_trans HOD.out.size h))).trans (ho.mono fun k hk => hk.elim (fun e => by rw [e]; exact HGJ.out) fun h => .inr (Nat.le_trans HOD.out.size (Nat.le_trans HOA.out.size h))))
      clear hr hgn ho
      clear hHeld
      refine hK.out _ _ (KY.out _ (HXO.out _ HOI.out)) (fun hHeld => ?_)
      clear hK K
      try simp only [Act.put, lsa, lsz, lss]
      refine oneA 15 7 hsel (h := ?_)
      simp only [Act.put, lsa, lsz, lss]
      refine wpAnyL_done (by kernel_rfl) (by kernel_rfl) ?_ _
      clear hsel hHeld
      go_wp2
      go_roundg (rn - (k + 1))
      case measure => (clear f1 hk1; omega)
      case rel =>
        refine ⟨k + 1, gi, zj + 1, ti, _, rfl, hlt, rfl, by first | rfl | (rw [hk1]), Lib.hid (by rw [HK.out]; rfl), HRI, HGI, Lib.hid (fun W hW => ?_), HOI⟩
        rw [List.take_add_one, HY.out.1, List.map_append, ← List.append_assoc]
        have h9 : koE.At W (opW y) [.int .i64 2, .int .i64 y4, .int .i64 0, .slice P yl cp, .slice none 0 0] := by
          rw [HY.out.2.2]
          exact ko_w (HYS.out W (HXE.out W hW))
        exact Den.append (HDJ.out W hW) (Den.single h9)
    · obtain rfl : k = rn := Nat.le_antisymm hk (Nat.not_lt.1 hlt)
      have HKN := Lib.hid (ko_nums HK.out (by decide) hk HRN.out)
      have i3 := HA17.out _ HOJ.out
      have x7 := HE7.out.1
      have x8 := HE7.out.2
      have HW14 : Hid (Only (wr.heap.size ≤ ·) wr (wr.alloc (Obj.cells #[.int .i64 3, .int .i64 0, .int .i64 0, .slice none 0 0, .slice none 0 0] 44))) := Lib.hid ((Only.refl _ wr).alloc (fun _ h => h) _)
      have HN14 : Hid (Blk (wr.alloc (Obj.cells #[.int .i64 3, .int .i64 0, .int .i64 0, .slice none 0 0, .slice none 0 0] 44)) wr.heap.size 44 [.int .i64 3, .int .i64 0, .int .i64 0, .slice none 0 0, .slice none 0 0]) := Lib.hid (Blk.new wr 44 _)
      have HA14 := Lib.hid (own_later HRJ.out HW14.out)
      have HB14 : Hid (q ≤ (wr.alloc (Obj.cells #[.int .i64 3, .int .i64 0, .int .i64 0, .slice none 0 0, .slice none 0 0] 44)).heap.size) := Lib.hid (ko_le4 HQB.out HOJ.out.size HW14.out.size)
      go_wp2_with (first
        | (at_builtin; (refine wpList_append_o rfl (.tmp 82) (.tmp 84) rfl q gj (zj) tj (Cj) rfl HA14.out wr.heap.size 1 [.int .i64 3, .int .i64 0, .int .i64 0, .slice none 0 0, .slice none 0 0] rfl rfl HN14.out (by simp [Value.oneCell']) HKN.out.1 HKN.out.2.2.1 HB14.out (fun g14 t14 w14 hr hgn ho => ?_); have HR14 := Lib.hid hr; have HG14 : Hid (g14 = q ∨ wb.heap.size ≤ g14) := Lib.hid (hgn.elim (fun e => by rw [e]; exact HGJ.out) fun h => .inr (Nat.le_trans HOJ.out.size (Nat.le_trans HW14.out.size h))); have HO14 : Hid (Only (fun k => k = q ∨ wb.heap.size ≤ k) wb w14) := Lib.hid ((HOJ.out.trans (HW14.out.mono fun k h => .inr (Nat.le_trans HOJ.out.size h))).trans (ho.mono fun k hk => hk.elim (fun e => by rw [e]; exact HGJ.out) fun h => .inr (Nat.le_trans HOJ.out.size (Nat.le_trans HW14.out.size h)))); clear hr hgn ho); have i3 := HA17.out _ HO14.out; have HW17 : Hid (Only (w14.heap.size ≤ ·) w14 (w14.alloc (Obj.cells #[.int .i64 2, .int .i64 s1, .int .i64 0, .slice BA bl bc, .slice none 0 0, .int .i64 3, .int .i64 0, .int .i64 0, .slice none 0 0, .slice none 0 0] 44))) := Lib.hid ((Only.refl _ w14).alloc (fun _ h => h) _); have HN17 : Hid (Blk (w14.alloc (Obj.cells #[.int .i64 2, .int .i64 s1, .int .i64 0, .slice BA bl bc, .slice none 0 0, .int .i64 3, .int .i64 0, .int .i64 0, .slice none 0 0, .slice none 0 0] 44)) w14.heap.size 44 [.int .i64 2, .int .i64 s1, .int .i64 0, .slice BA bl bc, .slice none 0 0, .int .i64 3, .int .i64 0, .int .i64 0, .slice none 0 0, .slice none 0 0]) := Lib.hid (Blk.new w14 44 _); have HA17 := Lib.hid (own_later HR14.out HW17.out); have HB17 : Hid (q ≤ (w14.alloc (Obj.cells #[.int .i64 2, .int .i64 s1, .int .i64 0, .slice BA bl bc, .slice none 0 0, .int .i64 3, .int .i64 0, .int .i64 0, .slice none 0 0, .slice none 0 0] 44)).heap.size) := Lib.hid (ko_le4 HQB.out HO14.out.size HW17.out.size))
        | (at_builtin; (refine wpList_append_o rfl (.tmp 88) (.tmp 96) rfl q g14 (zj + 1) t14 (Cj ++ [.int .i64 3, .int .i64 0, .int .i64 0, .slice none 0 0, .slice none 0 0]) rfl HA17.out w14.heap.size 2 [.int .i64 2, .int .i64 s1, .int .i64 0, .slice BA bl bc, .slice none 0 0, .int .i64 3, .int .i64 0, .int .i64 0, .slice none 0 0, .slice none 0 0] rfl rfl HN17.out (by simp [Value.oneCell']) HKN.out.2.1 HKN.out.2.2.2.1 HB17.out (fun g17 t17 w17 hr hgn ho => ?_); have HR17 := Lib.hid hr; have HG17 : Hid (g17 = q ∨ wb.heap.size ≤ g17) := Lib.hid (hgn.elim (fun e => by rw [e]; exact HG14.out) fun h => .inr (Nat.le_trans HO14.out.size (Nat.le_trans HW17.out.size h))); have HO17 : Hid (Only (fun k => k = q ∨ wb.heap.size ≤ k) wb w17) := Lib.hid ((HO14.out.trans (HW17.out.mono fun k h => .inr (Nat.le_trans HO14.out.size h))).trans (ho.mono fun k hk => hk.elim (fun e => by rw [e]; exact HG14.out) fun h => .inr (Nat.le_trans HO14.out.size (Nat.le_trans HW17.out.size h)))); clear hr hgn ho)))
      go_ret
      have hl : (((ws.take k).map opW).length) = k := by rw [List.length_map, List.length_take, ← HLN.out, Nat.min_self]
      have ht : ws.take k = ws := List.take_of_length_le (Nat.le_of_eq HLN.out.symm)
      have e1 : opsK false (N : Int) (kx : Int) ws [] b = ([((0 : Int), q0, ([] : Bytes)), ((2 : Int), s1, z256)] ++ (ws.take k).map opW) ++ [opS] ++ [((2 : Int), s1, b), opS] := by
        rw [ht, HQS.out.1, HQS.out.2]
        simp [opsK, opsW, opsR, opW]
      have e2 : (opsK false (N : Int) (kx : Int) ws [] b).length = zj + 1 + 2 := by
        rw [e1, HK.out]
        simp only [List.length_append, List.length_cons, List.length_nil, hl]
        try omega
      have hd : ∀ W, Only (fun k => (k = q ∨ k = e8) ∨ wb.heap.size ≤ k) wb W → Den (koE.At W) (opsK false (N : Int) (kx : Int) ws [] b) (Cj ++ [.int .i64 3, .int .i64 0, .int .i64 0, .slice none 0 0, .slice none 0 0] ++ [.int .i64 2, .int .i64 s1, .int .i64 0, .slice BA bl bc, .slice none 0 0, .int .i64 3, .int .i64 0, .int .i64 0, .slice none 0 0, .slice none 0 0]) := by
        intro W hW
        rw [e1]
        exact Den.append (Den.append (HDJ.out W hW) (Den.single ko_sync)) (ko_two (ko_w (HBb.out W hW)) ko_sync)
      refine ⟨some ⟨g17, 0, none⟩, t17, by rw [e2]; rfl, ?_, HXO.out _ HO17.out⟩
      rw [e2]
      exact ko_srw HR17.out hd e2 HO17.out (fun h9 => ko_ne2 h9 HG17.out (Nat.lt_succ_of_lt H8.out.2) HAQ.out HQB.out)
end Go.Proofs.YtbpldkhgiddmlaaGreatDoor
