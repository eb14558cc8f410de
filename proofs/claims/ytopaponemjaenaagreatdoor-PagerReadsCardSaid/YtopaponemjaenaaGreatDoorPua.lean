/-
  The document's disk: New, Load.
-/
import Derived.Test.YtopaponemjaenaaGreatDoorPga
import Derived.Test.YtopaponemjaenaaGreatDoorPgw
import Derived.Test.YtopaponemjaenaaGreatDoorGv
import Derived.Test.YtopaponemjaenaaGreatDoorGd
import Derived.RegionTactic
import Derived.BigRegion
import Derived.Maps.AppendAt
import Derived.Lib.OwnKind
import Derived.Laws.AppendOwnNone
set_option linter.unusedVariables false
namespace Go.Proofs.YtopaponemjaenaaGreatDoor
open Go.RowKit

section
variable {P : Program} {w : World}
theorem wp_append_at {o : Oper} {a : Act} {K : Act → World → Prop} {Q : Exit → Act → World → Prop} (s x : Operand) (t : TypeId)
    (ho : o.op = .call { callee := .builtin .append, args := #[s, x], argTypes := #[t, t] })
    (base : Nat) (e : TypeId) (i : TypeInfo) (z : Value) (size bytes : Nat) (ht : P.underlying t = some (.slice e)) (hi : P.info? e = some i) (hz : i.zero = some z)
    (hsize : i.size = size) (hby : i.bytes = bytes) (hzs : z.cells.size = size) (hsz : 0 < size)
    (v : Value) (n : Nat) (xs : List Value) (hs : a.eval s = v) (hown : w.ownsRow base e size v n xs)
    (ad : Addr) (m c : Nat) (news : List Value) (hx : a.eval x = .slice (some ad) m c) (hl : news.length = m * size) (hnews : ∀ j u, news[j]? = some u → w.cell? (ad.add j) = some u) (h1 : ∀ u ∈ news, u.oneCell' = true)
    (h63 : n + m ≤ maxLen) (hbytes : (n + m) * bytes ≤ 140737488355328) (hbase : base ≤ w.heap.size)
    (h : ∀ v' w', w'.ownsRow base e size v' (n + m) (xs ++ news) → w.grownBy w' v.ownBlock → (v'.ownBlock = v.ownBlock ∨ v'.ownBlock = some w.heap.size) → K (a.put o.dst v') w') : o.wp P a w K Q := by
  obtain ⟨v', w', hr, h2, h3, h4, h5⟩ := run_append_own_at (P := P) w base t o.type e i z size bytes ht hi hz hsize hby hzs hsz v n xs hown ad m c news hl hnews h1 h63 hbytes hbase
  unfold Oper.wp execOp
  simp only [ho, resolve, invoke, builtin, Sem.run_bind, Sem.run_pure, Result.andThen_ok, List.map_toArray, List.map_cons, List.map_nil, hs, hx, hr]
  exact h v' w' h2 h3 h5
theorem wpList_append_at {ops : Array Oper} {rest : List Oper} {o : Oper} {a : Act} {Q : Exit → Act → World → Prop} (hgd : o.guard = none) (s x : Operand) (t : TypeId)
    (ho : o.op = .call { callee := .builtin .append, args := #[s, x], argTypes := #[t, t] })
    (base : Nat) (e : TypeId) (i : TypeInfo) (z : Value) (size bytes : Nat) (ht : P.underlying t = some (.slice e)) (hi : P.info? e = some i) (hz : i.zero = some z)
    (hsize : i.size = size) (hby : i.bytes = bytes) (hzs : z.cells.size = size) (hsz : 0 < size)
    (v : Value) (n : Nat) (xs : List Value) (hs : a.eval s = v) (hown : w.ownsRow base e size v n xs)
    (ad : Addr) (m c : Nat) (news : List Value) (hx : a.eval x = .slice (some ad) m c) (hl : news.length = m * size) (hnews : ∀ j u, news[j]? = some u → w.cell? (ad.add j) = some u) (h1 : ∀ u ∈ news, u.oneCell' = true)
    (h63 : n + m ≤ maxLen) (hbytes : (n + m) * bytes ≤ 140737488355328) (hbase : base ≤ w.heap.size)
    (h : ∀ v' w', w'.ownsRow base e size v' (n + m) (xs ++ news) → w.grownBy w' v.ownBlock → (v'.ownBlock = v.ownBlock ∨ v'.ownBlock = some w.heap.size) → wpList P ops Q rest (a.put o.dst v') w') : wpList P ops Q (o :: rest) a w :=
  wpList_plain hgd fun K hK => wp_append_at s x t ho base e i z size bytes ht hi hz hsize hby hzs hsz v n xs hs hown ad m c news hx hl hnews h1 h63 hbytes hbase fun v' w' h2 h3 h5 => hK _ _ (h v' w' h2 h3 h5)
end
theorem wpList_bytes {w : World} {ops : Array Oper} {rest : List Oper} {o : Oper} {a : Act} {Q : Exit → Act → World → Prop} (hgd : o.guard = none) (s x : Operand)
    (ho : o.op = .call { callee := .builtin .append, args := #[s, x], argTypes := #[22, 22] }) (base : Nat) (v u : Value) (xs ys : Bytes) (hs : a.eval s = v) (hown : w.ownsRow base 5 1 v xs.length (cb xs)) (hx : a.eval x = u) (hy : Src w u ys) (hl : xs.length + ys.length ≤ 100000000) (hbase : base ≤ w.heap.size)
    (h : ∀ v' w', w'.ownsRow base 5 1 v' (xs.length + ys.length) (cb xs ++ cb ys) → w.grownBy w' v.ownBlock → (v'.ownBlock = v.ownBlock ∨ v'.ownBlock = some w.heap.size) → wpList Tryz.prog ops Q rest (a.put o.dst v') w') : wpList Tryz.prog ops Q (o :: rest) a w := by
  obtain ⟨i0, hi0, hz0, hz1, hz2⟩ := info_parts info8
  obtain ⟨A, c, rfl, ht, hA, hc, hm⟩ := hy
  cases A with
  | some ad =>
    exact wpList_append_at hgd s x 22 ho base 5 i0 _ 1 1 Tryz.underlying22 hi0 hz0 hz1 hz2 (by rfl) (by omega) v xs.length (cb xs) hs hown ad ys.length c (cb ys) hx (by rw [cb_length, Nat.mul_one]) (fun j y hy => ht.src ad rfl j y hy) (cb_one _) (by simp only [maxLen]; omega) (by omega) hbase h
  | none =>
    have hy0 : ys = [] := by
      rcases Nat.eq_zero_or_pos ys.length with h0 | h0
      · exact List.eq_nil_of_length_eq_zero h0
      · obtain ⟨ad, ea, _⟩ := ht.2 h0
        cases ea
    subst hy0
    obtain rfl := hA rfl
    refine wpList_append_own_none hgd s x 22 ho base 5 i0 1 Tryz.underlying22 hi0 v xs.length (cb xs) hs hown hx ?_
    exact h v w (by simpa [cb] using hown) (World.grownBy.refl w _) (.inl rfl)

theorem cell_later {w W : World} {a : Addr} {x : Value} (h : w.cell? a = some x) (ho : Only (w.heap.size ≤ ·) w W) : W.cell? a = some x := (ho.cell (p := a) (Nat.not_le.2 (World.block_lt_of_cell? w _ h))).trans h
/-- Bytes of the call's own that grow. -/
theorem app8 {w : World} {ops : Array Oper} {rest : List Oper} {o : Oper} {a : Act} {Q : Exit → Act → World → Prop} (hgd : o.guard = none) (s x : Operand)
    (ho : o.op = .call { callee := .builtin .append, args := #[s, x], argTypes := #[22, 22] }) (base n m : Nat) (v u : Value) (xs ys : Bytes) (hs : a.eval s = v) (hn : xs.length = n) (hown : w.ownsRow base 5 1 v n (cb xs)) (hx : a.eval x = u) (hm : ys.length = m) (hy : Src w u ys) (hl : n + m ≤ 100000000) (hbase : base ≤ w.heap.size)
    (h : ∀ A c w', w'.ownsRow base 5 1 (.slice A (n + m) c) (n + m) (cb (xs ++ ys)) → Only (base ≤ ·) w w' → wpList Tryz.prog ops Q rest (a.put o.dst (.slice A (n + m) c)) w') : wpList Tryz.prog ops Q (o :: rest) a w := by
  subst hn hm
  refine wpList_bytes hgd s x ho base v u xs ys hs hown hx hy hl hbase (fun v' w' hr hg hb => ?_)
  obtain ⟨A, c, rfl, _⟩ := raw_of_own hr
  have e : cb xs ++ cb ys = cb (xs ++ ys) := by simp [cb]
  rw [e] at hr
  exact h A c w' hr (((Only.refl (fun k => v.ownBlock = some k ∨ w.heap.size ≤ k) w).grown hg (fun _ h => .inr h) (fun _ e => .inl e)).mono fun j hj => hj.elim (fun e => (World.ownsRow.lt hown j e).1) fun h2 => Nat.le_trans hbase h2)
theorem own8_none (w : World) (t : Nat × Nat := (0, 0)) : (w.alloc (.cells #[] 5)).ownsRow w.heap.size 5 1 (.slice (some ⟨w.heap.size, 0, none⟩) 0 0) 0 (cb []) :=
  ⟨by simp [cb], .inr ⟨w.heap.size, 0, #[], rfl, Nat.le_refl _, heap_alloc_new w _, Nat.le_refl _, by decide, by simp, by simp [cb]⟩⟩
theorem own8_src {w : World} {B n c : Nat} {A : Option Addr} {xs : Bytes} (h : w.ownsRow B 5 1 (.slice A n c) n (cb xs)) (hn : xs.length = n) : Src w (.slice A n c) xs := by
  subst hn
  exact Src.own h
theorem load_kd {w : World} {q : Nat} {a b c d e f : Value} (h : Blk w q 34 [a, b, c, d, e, f]) (h1 : a.oneCell' = true := by rfl) (h2 : b.oneCell' = true := by rfl) (h3 : c.oneCell' = true := by rfl) (h4 : d.oneCell' = true := by rfl) (h5 : e.oneCell' = true := by rfl) (h6 : f.oneCell' = true := by rfl) : (loadVar 34 ⟨q, 0, none⟩).run Tryz.prog w = .ok (.agg #[a, b, c, d, e, f]) w := by
  have hl := run_loadCells_list (P := Tryz.prog) w ⟨q, 0, none⟩ [a, b, c, d, e, f] (fun j z hz => by rw [Addr.add_lit, h.cell, Nat.zero_add]; exact hz)
  simp only [List.length_cons, List.length_nil] at hl
  simp [loadVar, hl]
theorem blk_six {w : World} {q : Nat} {t : TypeId} {a b c d e f : Value} (h : Blk w q t [a, b, c, d, e, f]) : w.cell? ⟨q, 0, none⟩ = some a ∧ w.cell? ⟨q, 1, none⟩ = some b ∧ w.cell? ⟨q, 2, none⟩ = some c ∧ w.cell? ⟨q, 3, none⟩ = some d ∧ w.cell? ⟨q, 4, none⟩ = some e ∧ w.cell? ⟨q, 5, none⟩ = some f := ⟨h.cell 0, h.cell 1, h.cell 2, h.cell 3, h.cell 4, h.cell 5⟩
set_option maxRecDepth 100000 in
set_option maxHeartbeats 6400000 in
theorem kNew_c (w : World) (limit : Int) : Calls Tryz.prog 37 #[.int .i64 limit] w (Told w (.agg #[.int .i64 (Dk.cut limit : Nat), .slice none 0 0, .slice none 0 0, .int .i64 0, .int .i64 (-1), .bool false])) := by
  obtain ⟨k, hk⟩ : ∃ z, z = ((Dk.cut limit : Nat) : Int) := ⟨_, rfl⟩
  rw [← hk]
  have HB : ∀ (x : Int), Hid (Blk (w.alloc (.cells #[.int .i64 x, .slice none 0 0, .slice none 0 0, .int .i64 0, .int .i64 (-1), .bool false] 34)) w.heap.size 34 [.int .i64 x, .slice none 0 0, .slice none 0 0, .int .i64 0, .int .i64 (-1), .bool false]) := fun x => Lib.hid (Blk.new w 34 _)
  have HO : ∀ (x : Int), Hid (Only (w.heap.size ≤ ·) w (w.alloc (.cells #[.int .i64 x, .slice none 0 0, .slice none 0 0, .int .i64 0, .int .i64 (-1), .bool false] 34))) := fun x => Lib.hid ((Only.refl _ w).alloc (fun _ h => h) _)
  by_cases h1 : limit < 0
  · have e : Hid (k = 0) := Lib.hid (by rw [hk]; unfold Dk.cut; omega)
    clear hk
    go_enter Tryz.func37, Tryz.ntmps37
    go_wp2
    refine bodyPost_ret (results_cell rfl rfl (load_kd (HB 0).out)) rfl ?_
    rw [e.out]
    exact ⟨rfl, (HO 0).out⟩
  · by_cases h2 : 65536 < limit
    · have e : Hid (k = 65536) := Lib.hid (by rw [hk]; unfold Dk.cut; omega)
      clear hk
      go_enter Tryz.func37, Tryz.ntmps37
      go_wp2
      refine bodyPost_ret (results_cell rfl rfl (load_kd (HB 65536).out)) rfl ?_
      rw [e.out]
      exact ⟨rfl, (HO 65536).out⟩
    · have e : Hid (k = limit) := Lib.hid (by rw [hk]; unfold Dk.cut; omega)
      clear hk
      go_enter Tryz.func37, Tryz.ntmps37
      go_wp2
      refine bodyPost_ret (results_cell rfl rfl (load_kd (HB limit).out)) rfl ?_
      rw [e.out]
      exact ⟨rfl, (HO limit).out⟩
theorem kd_set {W : World} {q : Nat} {a b c d e f a' b' c' d' e' f' : Value} (h : Blk W q 34 [a, b, c, d, e, f]) : Blk ((((((W.setCell ⟨q, 0, none⟩ a').setCell ⟨q, 1, none⟩ b').setCell ⟨q, 2, none⟩ c').setCell ⟨q, 3, none⟩ d').setCell ⟨q, 4, none⟩ e').setCell ⟨q, 5, none⟩ f') q 34 [a', b', c', d', e', f'] ∧ Only (· = q) W ((((((W.setCell ⟨q, 0, none⟩ a').setCell ⟨q, 1, none⟩ b').setCell ⟨q, 2, none⟩ c').setCell ⟨q, 3, none⟩ d').setCell ⟨q, 4, none⟩ e').setCell ⟨q, 5, none⟩ f') :=
  ⟨(((((h.set_ 0 a').set_ 1 b').set_ 2 c').set_ 3 d').set_ 4 e').set_ 5 f', ((((((Only.refl (· = q) W).setCell (p := ⟨q, 0, none⟩) rfl a').setCell (p := ⟨q, 1, none⟩) rfl b').setCell (p := ⟨q, 2, none⟩) rfl c').setCell (p := ⟨q, 3, none⟩) rfl d').setCell (p := ⟨q, 4, none⟩) rfl e').setCell (p := ⟨q, 5, none⟩) rfl f'⟩
/-- The document's disk came back: its bytes, nothing else done. -/
def GaveK (w : World) (L : Nat) (B : Bytes) (e : Ending) (w' : World) : Prop := ∃ A c, e = .returned (.agg #[.int .i64 (L : Nat), .slice A B.length c, .slice none 0 0, .int .i64 0, .int .i64 (-1), .bool false]) ∧ Src w' (.slice A B.length c) B ∧ Only (w.heap.size ≤ ·) w w'
theorem pad_take (xs : Bytes) (m L : Nat) (hm : m = (64 - xs.length % 64) % 64) (hL : L ≤ 65536) : (xs ++ List.replicate m 0).length % 64 = 0 ∧ (if 64 * L < xs.length + m then (xs ++ List.replicate m 0).take (64 * L) else xs ++ List.replicate m 0) = Dk.pad (xs.take (L * 64)) := by
  refine ⟨by rw [List.length_append, List.length_replicate]; omega, ?_⟩
  unfold Dk.pad
  by_cases h : 64 * L < xs.length + m
  · rw [if_pos h]
    have h1 : L * 64 ≤ xs.length := by omega
    rw [List.take_append_of_le_length (by omega), List.length_take, Nat.min_eq_left h1, show (L * 64 + 63) / 64 * 64 - L * 64 = 0 by omega, List.replicate_zero, List.append_nil, Nat.mul_comm]
  · rw [if_neg h]
    by_cases h2 : xs.length ≤ L * 64
    · rw [List.take_of_length_le h2]
      congr 2
      omega
    · have h3 : xs.length + m ≤ 64 * L := by omega
      omega
theorem src_on {w w' : World} {F : Nat → Prop} {A : Option Addr} {n c : Nat} {xs : Bytes} (h : Src w (.slice A n c) xs) (ho : Only F w w') (hF : ∀ ad, A = some ad → 0 < n → ¬ F ad.block) : Src w' (.slice A n c) xs := by
  obtain ⟨A', c', e, ht, h1⟩ := h
  cases e
  exact ⟨A, c, rfl, ht.only ho fun ad hn e => hF ad e hn, h1⟩
theorem own8_off {w w2 : World} {b n c : Nat} {A : Option Addr} {xs : Bytes} (h : w.ownsRow w2.heap.size 5 1 (.slice A n c) n (cb xs)) (hb : b < w2.heap.size) {ad : Addr} (hA : A = some ad) : ¬ ad.block = b := fun e => by
  obtain ⟨A', c', e2, _, _, _, _, h5⟩ := raw_of_own h
  cases e2
  obtain ⟨g, e3, _, e4, _⟩ := h5 ad hA
  rw [e3] at e
  have e5 : g = b := e
  omega
theorem src_cut {w : World} {ad : Addr} {n q c : Nat} {xs : Bytes} (h : Src w (.slice (some ad) n c) xs) (hq : q ≤ n) (hc : q ≤ c) : Src w (.slice (some ad) q c) (xs.take q) := by
  obtain ⟨A', c', e, ht, h1, h2, h3⟩ := h
  cases e
  have hl : (xs.take q).length = q := by rw [List.length_take]; omega
  refine ⟨some ad, c, by rw [hl], ?_, h1, by rw [hl]; exact hc, h3⟩
  rw [hl]
  exact ht.take q hq
set_option maxRecDepth 100000 in
set_option maxHeartbeats 12800000 in
theorem kLoad_c (w : World) (A : Option Addr) (n c : Nat) (xs : Bytes) (limit : Int) (hs : Src w (.slice A n c) xs) (hne : xs.length = n) (hn : n ≤ 1000000) : Calls Tryz.prog 8 #[.slice A n c, .int .i64 limit] w (GaveK w (Dk.cut limit) (Dk.pad (xs.take (Dk.cut limit * 64)))) := by
  obtain ⟨L, hL⟩ : ∃ z, z = Dk.cut limit := ⟨_, rfl⟩
  have HNW : Hid (∀ W, Calls Tryz.prog 37 #[.int .i64 limit] W (Told W (.agg #[.int .i64 (L : Nat), .slice none 0 0, .slice none 0 0, .int .i64 0, .int .i64 (-1), .bool false]))) := Lib.hid (fun W => by rw [hL]; exact kNew_c W limit)
  rw [← hL]
  have hL6 : L ≤ 65536 := by rw [hL]; unfold Dk.cut; omega
  clear hL
  obtain ⟨m, hm⟩ : ∃ z, z = (64 - n % 64) % 64 := ⟨_, rfl⟩
  have HS := Lib.hid hs
  have HNE := Lib.hid hne
  have HR0 : Hid (Blk (w.alloc (.cells #[.int .i64 0, .slice none 0 0, .slice none 0 0, .int .i64 0, .int .i64 0, .bool false] 34)) w.heap.size 34 [.int .i64 0, .slice none 0 0, .slice none 0 0, .int .i64 0, .int .i64 0, .bool false]) := Lib.hid (Blk.new w _ _)
  have HO0 : Hid (Only (w.heap.size ≤ ·) w (w.alloc (.cells #[.int .i64 0, .slice none 0 0, .slice none 0 0, .int .i64 0, .int .i64 0, .bool false] 34))) := Lib.hid ((Only.refl _ w).alloc (fun _ h => h) _)
  obtain ⟨w0, hw0⟩ : ∃ W0, W0 = w.alloc (.cells #[.int .i64 0, .slice none 0 0, .slice none 0 0, .int .i64 0, .int .i64 0, .bool false] 34) := ⟨_, rfl⟩
  rw [← hw0] at HR0 HO0
  have HE0 := Lib.hid hw0
  have HM := Lib.hid hm
  clear hs hne hw0 hm
  go_enter Tryz.func8, Tryz.ntmps8
  go_upto_region 1 with (fail)
  rw [← HE0.out]
  clear HE0
  go_upto_region 2 with (go_at_call 37; (with_reducible refine (HNW.out _).mono ?_); rintro e w1 ⟨rfl, ho⟩; have HO1 := Lib.hid ho; clear ho)
  obtain ⟨w2, hw2⟩ : ∃ W0, W0 = w1.alloc (.cells #[.int .i64 (L : Nat), .slice none 0 0, .slice none 0 0, .int .i64 0, .int .i64 (-1), .bool false] 34) := ⟨_, rfl⟩
  have HO2 : Hid (Only (w1.heap.size ≤ ·) w1 w2) := Lib.hid (by rw [hw2]; exact (Only.refl _ w1).alloc (fun _ h => h) _)
  have HD2 : Hid (Blk w2 w1.heap.size 34 [.int .i64 (L : Nat), .slice none 0 0, .slice none 0 0, .int .i64 0, .int .i64 (-1), .bool false]) := Lib.hid (by rw [hw2]; exact Blk.new w1 34 _)
  have HR2 := Lib.hid (HR0.out.only (on_new HO1.out HO2.out) (Nat.not_le.2 HR0.out.lt))
  have HOW := Lib.hid (on_new HO0.out (on_new HO1.out HO2.out))
  have HNE2 : Hid (w.heap.size < w1.heap.size) := Lib.hid (Nat.lt_of_lt_of_le HR0.out.lt HO1.out.size)
  rw [← hw2]
  generalize hb5 : w1.heap.size = b5 at HD2 HNE2 ⊢
  clear hw2 hb5 HR0 HO0 HO1 HO2 HNW
  have HXA : Hid (Only (w2.heap.size ≤ ·) w2 (w2.alloc (.cells #[] 5))) := Lib.hid ((Only.refl _ w2).alloc (fun _ h => h) _)
  go_wp2_with (at_builtin; refine app8 rfl (.tmp 9) (.tmp 10) rfl w2.heap.size 0 n _ _ [] xs rfl rfl (own8_none w2) rfl HNE.out (HS.out.later (on_new HOW.out HXA.out)) (by omega) (by simp) ?_; intro A3 c3 w3 hr ho; rw [List.nil_append] at hr; (simp only [Nat.zero_add] at hr ⊢); have HR3 := Lib.hid hr; have HX3 : Hid (Only (w2.heap.size ≤ ·) w2 w3) := Lib.hid (HXA.out.trans ho); clear hr ho)
  go_loopg [6] m (fun gk s wr => ∃ (j : Nat) (R : Option Addr) (t z : Nat), gk = m - j ∧ j ≤ m ∧ s = .slice R z t ∧ Hid (z = n + j) ∧ Hid (wr.ownsRow w2.heap.size 5 1 (.slice R z t) z (cb (xs ++ List.replicate j 0))) ∧ Hid (Only (w2.heap.size ≤ ·) w2 wr))
  case atStart => exact ⟨0, A3, c3, n, rfl, Nat.zero_le _, rfl, Lib.hid rfl, Lib.hid (by rw [List.replicate_zero, List.append_nil]; exact HR3.out), HX3⟩
  case round =>
    obtain ⟨j, R, t, z, rfl, hj, rfl, HZ, HR, HO⟩ := hrel
    by_cases hlt : j < m
    · have h1 : Int.tmod (z : Int) 64 ≠ 0 := by
        have h2 := HZ.out
        have h3 := HM.out
        rw [Int.tmod_eq_emod_of_nonneg (Int.natCast_nonneg z)]
        omega
      have h2 : ¬ ((z : Int) % 64 = 0) := by
        have h2 := HZ.out
        have h3 := HM.out
        omega
      have HXB : Hid (Only (w2.heap.size ≤ ·) w2 (wr.alloc (.cells #[.int .u8 0] 5))) := Lib.hid (HO.out.alloc (fun _ h => h) _)
      have HZB : Hid (Src (wr.alloc (.cells #[.int .u8 0] 5)) (.slice (some ⟨wr.heap.size, 0, none⟩) 1 1) [0]) := Lib.hid (by
        have hb : Blk (wr.alloc (.cells #[.int .u8 0] 5)) wr.heap.size 5 (cb [0] ++ []) := Blk.new wr 5 [.int .u8 0]
        have h4 := Txt.blk (A := some ⟨wr.heap.size, 0, none⟩) hb 0 1 (by simp) (fun _ => rfl)
        exact ⟨some ⟨wr.heap.size, 0, none⟩, 1, rfl, h4, (fun e => by cases e), Nat.le_refl _, by decide⟩)
      have HXL : Hid ((xs ++ List.replicate j 0).length = z) := Lib.hid (by rw [List.length_append, List.length_replicate, HNE.out, HZ.out])
      have hzl : z + 1 ≤ 100000000 := by have h3 := HZ.out; have h4 := HM.out; omega
      go_wp2_with (at_builtin; refine app8 rfl (.tmp 16) (.tmp 17) rfl w2.heap.size z 1 _ _ (xs ++ List.replicate j 0) [0] rfl HXL.out (World.ownsRow.alloc HR.out _) rfl rfl HZB.out hzl HXB.out.size ?_; intro A4 c4 w4 hr ho; have HR4 := Lib.hid hr; have HX4 : Hid (Only (w2.heap.size ≤ ·) w2 w4) := Lib.hid (HXB.out.trans ho); clear hr ho)
      go_roundg (m - (j + 1))
      case measure => omega
      case rel => exact ⟨j + 1, A4, c4, z + 1, rfl, by omega, rfl, Lib.hid (by rw [HZ.out]; omega), Lib.hid (by have h9 := HR4.out; rwa [List.append_assoc, show List.replicate j (0 : UInt8) ++ [0] = List.replicate (j + 1) 0 from (List.replicate_succ' ..).symm] at h9), HX4⟩
    · obtain rfl : j = m := by omega
      have h1 : Int.tmod (z : Int) 64 = 0 := by
        have h2 := HZ.out
        have h3 := HM.out
        rw [Int.tmod_eq_emod_of_nonneg (Int.natCast_nonneg z)]
        omega
      have h2 : (z : Int) % 64 = 0 := by
        have h2 := HZ.out
        have h3 := HM.out
        omega
      have HD3 := Lib.hid (HD2.out.only HO.out (Nat.not_le.2 HD2.out.lt))
      have HR3' := Lib.hid (HR2.out.only HO.out (Nat.not_le.2 HR2.out.lt))
      obtain ⟨i0, i1, i2, i3, i4, i5⟩ := blk_six HD3.out
      have z1 := HD3.out.frozen 1
      obtain ⟨q, hq⟩ : ∃ q, q = 64 * L := ⟨_, rfl⟩
      have b1 : wrap64 (64 * (L : Int)) = (q : Int) := by rw [IntWalk.wrap64_in _ (by omega)]; omega
      have HQ := Lib.hid hq
      have HSB := Lib.hid (own8_src HR.out (by rw [List.length_append, List.length_replicate, HNE.out, HZ.out]))
      have HRT : Hid (z ≤ t) := Lib.hid (by obtain ⟨A', c', e, _, _, h5, _⟩ := HSB.out; cases e; rw [List.length_append, List.length_replicate, HNE.out] at h5; have h6 := HZ.out; omega)
      have HL6 := Lib.hid hL6
      clear hq hn hL6
      obtain ⟨vR, hvR⟩ : ∃ v, v = Value.slice R z t := ⟨_, rfl⟩
      have HPE : Hid (∀ B' : Bytes, (if 64 * L < n + j then (xs ++ List.replicate j 0).take (64 * L) else xs ++ List.replicate j 0) = B' → Dk.pad (xs.take (L * 64)) = B') := Lib.hid (fun B' hB => by
        rw [← hB, ← HNE.out]
        exact ((pad_take xs j L (by rw [HNE.out]; exact HM.out) HL6.out).2).symm)
      by_cases h4 : q < z
      · obtain ⟨g, t2, hv, _⟩ := own_form HR.out (by omega)
        simp only [Value.slice.injEq, true_and] at hv
        obtain ⟨rfl, rfl⟩ := hv
        have h5 : (q : Int) < (z : Int) := by omega
        have h6 : (q : Int) ≤ (t : Int) := by have h7 := HRT.out; omega
        have h8 : q ≤ t := by have h7 := HRT.out; omega
        have h9 : (0 : Int) ≤ (q : Int) := by omega
        have HSQ : Hid (Src wr (.slice (some ⟨g, 0, none⟩) q t) ((xs ++ List.replicate j 0).take q)) := Lib.hid (src_cut HSB.out (by omega) h8)
        go_upto_region 8 with (fail)
        have HBE := Lib.hid (HPE.out ((xs ++ List.replicate j 0).take q) (by rw [if_pos (by have h7 := HZ.out; have h10 := HQ.out; omega), HQ.out]))
        have hlq : ((xs ++ List.replicate j 0).take q).length = q := by
          rw [List.length_take, List.length_append, List.length_replicate, HNE.out]
          have h7 := HZ.out
          omega
        obtain ⟨w6, hw6⟩ : ∃ W0, W0 = wr.setCell ⟨b5, 1, none⟩ (.slice (some ⟨g, 0, none⟩) q t) := ⟨_, rfl⟩
        have HO6 : Hid (Only (· = b5) wr w6) := Lib.hid (by rw [hw6]; exact (Only.refl (· = b5) wr).setCell (p := ⟨b5, 1, none⟩) rfl _)
        have HD6 : Hid (Blk w6 b5 34 [.int .i64 (L : Nat), .slice (some ⟨g, 0, none⟩) q t, .slice none 0 0, .int .i64 0, .int .i64 (-1), .bool false]) := Lib.hid (by rw [hw6]; exact HD3.out.set_ 1 (.slice (some ⟨g, 0, none⟩) q t))
        have HR6 := Lib.hid (HR3'.out.only HO6.out (fun e => by have h7 := HNE2.out; have h10 : w.heap.size = b5 := e; omega))
        have HS6 : Hid (Src w6 (.slice (some ⟨g, 0, none⟩) q t) ((xs ++ List.replicate j 0).take q)) := Lib.hid (src_on HSQ.out HO6.out (fun ad h10 h11 => own8_off HR.out HD2.out.lt h10))
        rw [← hw6]
        clear hw6 i0 i1 i2 i3 i4 i5 z1
        obtain ⟨i0, i1, i2, i3, i4, i5⟩ := blk_six HD6.out
        obtain ⟨r0, r1, r2, r3, r4, r5⟩ := blk_six HR6.out
        have f0 := HR6.out.frozen 0
        have f1 := HR6.out.frozen 1
        have f2 := HR6.out.frozen 2
        have f3 := HR6.out.frozen 3
        have f4 := HR6.out.frozen 4
        have f5 := HR6.out.frozen 5
        go_wp2
        have hk := kd_set (a' := .int .i64 (L : Nat)) (b' := .slice (some ⟨g, 0, none⟩) q t) (c' := .slice none 0 0) (d' := .int .i64 0) (e' := .int .i64 (-1)) (f' := .bool false) HR6.out
        refine bodyPost_ret (results_cell rfl rfl (load_kd hk.1)) rfl ?_
        rw [HBE.out]
        refine ⟨(some ⟨g, 0, none⟩), t, by rw [hlq], ?_, ?_⟩
        · rw [hlq]
          exact src_on HS6.out hk.2 (fun ad h10 h11 => own8_off HR.out HR2.out.lt h10)
        · refine ((on_new HOW.out HO.out).trans (HO6.out.mono fun k hk' => ?_)).trans (hk.2.mono fun k hk' => ?_)
          · have h7 := HNE2.out
            have h10 : k = b5 := hk'
            omega
          · have h10 : k = w.heap.size := hk'
            omega
      · have h5 : ¬ (q : Int) < (z : Int) := by omega
        go_upto_region 8 with (fail)
        have HBE := Lib.hid (HPE.out (xs ++ List.replicate j 0) (by rw [if_neg (by have h7 := HZ.out; have h10 := HQ.out; omega)]))
        have hlq : (xs ++ List.replicate j 0).length = z := by
          rw [List.length_append, List.length_replicate, HNE.out, HZ.out]
        obtain ⟨w6, hw6⟩ : ∃ W0, W0 = wr.setCell ⟨b5, 1, none⟩ (.slice R z t) := ⟨_, rfl⟩
        have HO6 : Hid (Only (· = b5) wr w6) := Lib.hid (by rw [hw6]; exact (Only.refl (· = b5) wr).setCell (p := ⟨b5, 1, none⟩) rfl _)
        have HD6 : Hid (Blk w6 b5 34 [.int .i64 (L : Nat), .slice R z t, .slice none 0 0, .int .i64 0, .int .i64 (-1), .bool false]) := Lib.hid (by rw [hw6]; exact HD3.out.set_ 1 (.slice R z t))
        have HR6 := Lib.hid (HR3'.out.only HO6.out (fun e => by have h7 := HNE2.out; have h10 : w.heap.size = b5 := e; omega))
        have HS6 : Hid (Src w6 (.slice R z t) (xs ++ List.replicate j 0)) := Lib.hid (src_on HSB.out HO6.out (fun ad h10 h11 => own8_off HR.out HD2.out.lt h10))
        rw [← hw6]
        clear hw6 i0 i1 i2 i3 i4 i5 z1
        obtain ⟨i0, i1, i2, i3, i4, i5⟩ := blk_six HD6.out
        obtain ⟨r0, r1, r2, r3, r4, r5⟩ := blk_six HR6.out
        have f0 := HR6.out.frozen 0
        have f1 := HR6.out.frozen 1
        have f2 := HR6.out.frozen 2
        have f3 := HR6.out.frozen 3
        have f4 := HR6.out.frozen 4
        have f5 := HR6.out.frozen 5
        go_wp2
        have hk := kd_set (a' := .int .i64 (L : Nat)) (b' := .slice R z t) (c' := .slice none 0 0) (d' := .int .i64 0) (e' := .int .i64 (-1)) (f' := .bool false) HR6.out
        refine bodyPost_ret (results_cell rfl rfl (load_kd hk.1)) rfl ?_
        rw [HBE.out]
        refine ⟨R, t, by rw [hlq], ?_, ?_⟩
        · rw [hlq]
          exact src_on HS6.out hk.2 (fun ad h10 h11 => own8_off HR.out HR2.out.lt h10)
        · refine ((on_new HOW.out HO.out).trans (HO6.out.mono fun k hk' => ?_)).trans (hk.2.mono fun k hk' => ?_)
          · have h7 := HNE2.out
            have h10 : k = b5 := hk'
            omega
          · have h10 : k = w.heap.size := hk'
            omega
end Go.Proofs.YtopaponemjaenaaGreatDoor
