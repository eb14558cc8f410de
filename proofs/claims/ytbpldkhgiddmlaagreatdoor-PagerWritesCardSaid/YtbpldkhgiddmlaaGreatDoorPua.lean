/-
  The document's disk: New, Load.
-/
import Derived.Test.YtbpldkhgiddmlaaGreatDoorPga
import Derived.Test.YtbpldkhgiddmlaaGreatDoorPgw
import Derived.Test.YtbpldkhgiddmlaaGreatDoorGv
import Derived.Test.YtbpldkhgiddmlaaGreatDoorGd
import Derived.RegionTactic
import Derived.BigRegion
import Derived.Maps.AppendAt
import Derived.Lib.OwnKind
import Derived.Laws.AppendOwnNone
set_option linter.unusedVariables false
namespace Go.Proofs.YtbpldkhgiddmlaaGreatDoor
open Go.RowKit

section
variable {P : Program} {w : World}
theorem wp_append_at {o : Oper} {a : Act} {K : Act → World → Prop} {Q : Exit → Act → World → Prop} (s x : Operand) (t : TypeId)
    (ho : o.op = .call { callee := .builtin .append, args := #[s, x], argTypes := #[t, t] })
    (base : Nat) (e : TypeId) (i : TypeInfo) (z : Value) (size bytes : Nat) (ht : P.underlying t = some (.slice e)) (hi : P.info? e = some i) (hz : i.zero = some z)
    (hsize : i.size = size) (hby : i.bytes = bytes) (hzs : z.cells.size = size) (hsz : 0 < size)
    (v : Value) (n : Nat) (xs : List Value) (hs : a.eval s = v) (hown : w.ownsRow base e size v n xs)
    (ad : Addr) (m c : Nat) (news : List Value) (hx : a.eval x = .slice (some ad) m c) (hl : news.length = m * size) (hnews : ∀ j u, news[j]? = some u → w.cell? (ad.add j) = some u) (h1 : ∀ u ∈ news, u.oneCell' = true)
    (h63 : n + m ≤ maxLen) (hbytes : (n + m) * bytes ≤ 140737488355328) (hbase : base ≤ w.heap.size)
    (h : ∀ v' w', w'.ownsRow base e size v' (n + m) (xs ++ news) → w.grownBy w' v.ownBlock → (v'.ownBlock = v.ownBlock ∨ v'.ownBlock = some w.heap.size) → K (a.put o.dst v') w') : o.wp P a w K Q := by
  obtain ⟨v', w', hr, h2, h3, h4, h5⟩ := run_append_own_at (P := P) w base t o.type e i z size bytes ht hi hz hsize hby hzs hsz v n xs hown ad m c news hl hnews h1 h63 hbytes hbase
  unfold Oper.wp execOp
  simp only [ho, resolve, invoke, builtin, Sem.run_bind, Sem.run_pure, Result.andThen_ok, List.map_toArray, List.map_cons, List.map_nil, hs, hx, hr]
  exact h v' w' h2 h3 h5
theorem wpList_append_at {ops : Array Oper} {rest : List Oper} {o : Oper} {a : Act} {Q : Exit → Act → World → Prop} (hgd : o.guard = none) (s x : Operand) (t : TypeId)
    (ho : o.op = .call { callee := .builtin .append, args := #[s, x], argTypes := #[t, t] })
    (base : Nat) (e : TypeId) (i : TypeInfo) (z : Value) (size bytes : Nat) (ht : P.underlying t = some (.slice e)) (hi : P.info? e = some i) (hz : i.zero = some z)
    (hsize : i.size = size) (hby : i.bytes = bytes) (hzs : z.cells.size = size) (hsz : 0 < size)
    (v : Value) (n : Nat) (xs : List Value) (hs : a.eval s = v) (hown : w.ownsRow base e size v n xs)
    (ad : Addr) (m c : Nat) (news : List Value) (hx : a.eval x = .slice (some ad) m c) (hl : news.length = m * size) (hnews : ∀ j u, news[j]? = some u → w.cell? (ad.add j) = some u) (h1 : ∀ u ∈ news, u.oneCell' = true)
    (h63 : n + m ≤ maxLen) (hbytes : (n + m) * bytes ≤ 140737488355328) (hbase : base ≤ w.heap.size)
    (h : ∀ v' w', w'.ownsRow base e size v' (n + m) (xs ++ news) → w.grownBy w' v.ownBlock → (v'.ownBlock = v.ownBlock ∨ v'.ownBlock = some w.heap.size) → wpList P ops Q rest (a.put o.dst v') w') : wpList P ops Q (o :: rest) a w :=
  wpList_plain hgd fun K hK => wp_append_at s x t ho base e i z size bytes ht hi hz hsize hby hzs hsz v n xs hs hown ad m c news hx hl hnews h1 h63 hbytes hbase fun v' w' h2 h3 h5 => hK _ _ (h v' w' h2 h3 h5)
end
theorem wpList_bytes {w : World} {ops : Array Oper} {rest : List Oper} {o : Oper} {a : Act} {Q : Exit → Act → World → Prop} (hgd : o.guard = none) (s x : Operand)
    (ho : o.op = .call { callee := .builtin .append, args := #[s, x], argTypes := #[22, 22] }) (base : Nat) (v u : Value) (xs ys : Bytes) (hs : a.eval s = v) (hown : w.ownsRow base 5 1 v xs.length (cb xs)) (hx : a.eval x = u) (hy : Src w u ys) (hl : xs.length + ys.length ≤ 100000000) (hbase : base ≤ w.heap.size)
    (h : ∀ v' w', w'.ownsRow base 5 1 v' (xs.length + ys.length) (cb xs ++ cb ys) → w.grownBy w' v.ownBlock → (v'.ownBlock = v.ownBlock ∨ v'.ownBlock = some w.heap.size) → wpList Tryz.prog ops Q rest (a.put o.dst v') w') : wpList Tryz.prog ops Q (o :: rest) a w := by
  obtain ⟨i0, hi0, hz0, hz1, hz2⟩ := info_parts info8
  obtain ⟨A, c, rfl, ht, hA, hc, hm⟩ := hy
  cases A with
  | some ad =>
    exact wpList_append_at hgd s x 22 ho base 5 i0 _ 1 1 Tryz.underlying22 hi0 hz0 hz1 hz2 (by rfl) (by omega) v xs.length (cb xs) hs hown ad ys.length c (cb ys) hx (by rw [cb_length, Nat.mul_one]) (fun j y hy => ht.src ad rfl j y hy) (cb_one _) (by simp only [maxLen]; omega) (by omega) hbase h
  | none =>
    have hy0 : ys = [] := by
      rcases Nat.eq_zero_or_pos ys.length with h0 | h0
      · exact List.eq_nil_of_length_eq_zero h0
      · obtain ⟨ad, ea, _⟩ := ht.2 h0
        cases ea
    subst hy0
    obtain rfl := hA rfl
    refine wpList_append_own_none hgd s x 22 ho base 5 i0 1 Tryz.underlying22 hi0 v xs.length (cb xs) hs hown hx ?_
    exact h v w (by simpa [cb] using hown) (World.grownBy.refl w _) (.inl rfl)

/-- Bytes of the call's own that grow. -/
theorem app8 {w : World} {ops : Array Oper} {rest : List Oper} {o : Oper} {a : Act} {Q : Exit → Act → World → Prop} (hgd : o.guard = none) (s x : Operand)
    (ho : o.op = .call { callee := .builtin .append, args := #[s, x], argTypes := #[22, 22] }) (base n m : Nat) (v u : Value) (xs ys : Bytes) (hs : a.eval s = v) (hn : xs.length = n) (hown : w.ownsRow base 5 1 v n (cb xs)) (hx : a.eval x = u) (hm : ys.length = m) (hy : Src w u ys) (hl : n + m ≤ 100000000) (hbase : base ≤ w.heap.size)
    (h : ∀ A c w', w'.ownsRow base 5 1 (.slice A (n + m) c) (n + m) (cb (xs ++ ys)) → Only (base ≤ ·) w w' → wpList Tryz.prog ops Q rest (a.put o.dst (.slice A (n + m) c)) w') : wpList Tryz.prog ops Q (o :: rest) a w := by
  subst hn hm
  refine wpList_bytes hgd s x ho base v u xs ys hs hown hx hy hl hbase (fun v' w' hr hg hb => ?_)
  obtain ⟨A, c, rfl, _⟩ := raw_of_own hr
  have e : cb xs ++ cb ys = cb (xs ++ ys) := by simp [cb]
  rw [e] at hr
  exact h A c w' hr (((Only.refl (fun k => v.ownBlock = some k ∨ w.heap.size ≤ k) w).grown hg (fun _ h => .inr h) (fun _ e => .inl e)).mono fun j hj => hj.elim (fun e => (World.ownsRow.lt hown j e).1) fun h2 => Nat.le_trans hbase h2)
theorem own8_none (w : World) (t : Nat × Nat := (0, 0)) : (w.alloc (.cells #[] 5)).ownsRow w.heap.size 5 1 (.slice (some ⟨w.heap.size, 0, none⟩) 0 0) 0 (cb []) :=
  ⟨by simp [cb], .inr ⟨w.heap.size, 0, #[], rfl, Nat.le_refl _, heap_alloc_new w _, Nat.le_refl _, by decide, by simp, by simp [cb]⟩⟩
theorem own8_src {w : World} {B n c : Nat} {A : Option Addr} {xs : Bytes} (h : w.ownsRow B 5 1 (.slice A n c) n (cb xs)) (hn : xs.length = n) : Src w (.slice A n c) xs := by
  subst hn
  exact Src.own h
theorem load_kd {w : World} {q : Nat} {a b c d e f : Value} (h : Blk w q 34 [a, b, c, d, e, f]) (h1 : a.oneCell' = true := by rfl) (h2 : b.oneCell' = true := by rfl) (h3 : c.oneCell' = true := by rfl) (h4 : d.oneCell' = true := by rfl) (h5 : e.oneCell' = true := by rfl) (h6 : f.oneCell' = true := by rfl) : (loadVar 34 ⟨q, 0, none⟩).run Tryz.prog w = .ok (.agg #[a, b, c, d, e, f]) w := by
  have hl := run_loadCells_list (P := Tryz.prog) w ⟨q, 0, none⟩ [a, b, c, d, e, f] (fun j z hz => by rw [Addr.add_lit, h.cell, Nat.zero_add]; exact hz)
  simp only [List.length_cons, List.length_nil] at hl
  simp [loadVar, hl]
theorem blk_six {w : World} {q : Nat} {t : TypeId} {a b c d e f : Value} (h : Blk w q t [a, b, c, d, e, f]) : w.cell? ⟨q, 0, none⟩ = some a ∧ w.cell? ⟨q, 1, none⟩ = some b ∧ w.cell? ⟨q, 2, none⟩ = some c ∧ w.cell? ⟨q, 3, none⟩ = some d ∧ w.cell? ⟨q, 4, none⟩ = some e ∧ w.cell? ⟨q, 5, none⟩ = some f := ⟨h.cell 0, h.cell 1, h.cell 2, h.cell 3, h.cell 4, h.cell 5⟩
set_option maxRecDepth 100000 in
set_option maxHeartbeats 6400000 in
theorem kNew_c (w : World) (limit : Int) : Calls Tryz.prog 37 #[.int .i64 limit] w (Told w (.agg #[.int .i64 (Dk.cut limit : Nat), .slice none 0 0, .slice none 0 0, .int .i64 0, .int .i64 (-1), .bool false])) := by
  obtain ⟨k, hk⟩ : ∃ z, z = ((Dk.cut limit : Nat) : Int) := ⟨_, rfl⟩
  rw [← hk]
  have HB : ∀ (x : Int), Hid (Blk (w.alloc (.cells #[.int .i64 x, .slice none 0 0, .slice none 0 0, .int .i64 0, .int .i64 (-1), .bool false] 34)) w.heap.size 34 [.int .i64 x, .slice none 0 0, .slice none 0 0, .int .i64 0, .int .i64 (-1), .bool false]) := fun x => Lib.hid (Blk.new w 34 _)
  have HO : ∀ (x : Int), Hid (Only (w.heap.size ≤ ·) w (w.alloc (.cells #[.int .i64 x, .slice none 0 0, .slice none 0 0, .int .i64 0, .int .i64 (-1), .bool false] 34))) := fun x => Lib.hid ((Only.refl _ w).alloc (fun _ h => h) _)
  by_cases h1 : limit < 0
  · have e : Hid (k = 0) := Lib.hid (by rw [hk]; unfold Dk.cut; omega)
    clear hk
    go_enter Tryz.func37, Tryz.ntmps37
    go_wp2
    refine bodyPost_ret (results_cell rfl rfl (load_kd (HB 0).out)) rfl ?_
    rw [e.out]
    exact ⟨rfl, (HO 0).out⟩
  · by_cases h2 : 65536 < limit
    · have e : Hid (k = 65536) := Lib.hid (by rw [hk]; unfold Dk.cut; omega)
      clear hk
      go_enter Tryz.func37, Tryz.ntmps37
      go_wp2
      refine bodyPost_ret (results_cell rfl rfl (load_kd (HB 65536).out)) rfl ?_
      rw [e.out]
      exact ⟨rfl, (HO 65536).out⟩
    · have e : Hid (k = limit) := Lib.hid (by rw [hk]; unfold Dk.cut; omega)
      clear hk
      go_enter Tryz.func37, Tryz.ntmps37
      go_wp2
      refine bodyPost_ret (results_cell rfl rfl (load_kd (HB limit).out)) rfl ?_
      rw [e.out]
      exact ⟨rfl, (HO limit).out⟩
theorem kd_set {W : World} {q : Nat} {a b c d e f a' b' c' d' e' f' : Value} (h : Blk W q 34 [a, b, c, d, e, f]) : Blk ((((((W.setCell ⟨q, 0, none⟩ a').setCell ⟨q, 1, none⟩ b').setCell ⟨q, 2, none⟩ c').setCell ⟨q, 3, none⟩ d').setCell ⟨q, 4, none⟩ e').setCell ⟨q, 5, none⟩ f') q 34 [a', b', c', d', e', f'] ∧ Only (· = q) W ((((((W.setCell ⟨q, 0, none⟩ a').setCell ⟨q, 1, none⟩ b').setCell ⟨q, 2, none⟩ c').setCell ⟨q, 3, none⟩ d').setCell ⟨q, 4, none⟩ e').setCell ⟨q, 5, none⟩ f') :=
  ⟨(((((h.set_ 0 a').set_ 1 b').set_ 2 c').set_ 3 d').set_ 4 e').set_ 5 f', ((((((Only.refl (· = q) W).setCell (p := ⟨q, 0, none⟩) rfl a').setCell (p := ⟨q, 1, none⟩) rfl b').setCell (p := ⟨q, 2, none⟩) rfl c').setCell (p := ⟨q, 3, none⟩) rfl d').setCell (p := ⟨q, 4, none⟩) rfl e').setCell (p := ⟨q, 5, none⟩) rfl f'⟩
theorem pad_take (xs : Bytes) (m L : Nat) (hm : m = (64 - xs.length % 64) % 64) (hL : L ≤ 65536) : (xs ++ List.replicate m 0).length % 64 = 0 ∧ (if 64 * L < xs.length + m then (xs ++ List.replicate m 0).take (64 * L) else xs ++ List.replicate m 0) = Dk.pad (xs.take (L * 64)) := by
  refine ⟨by rw [List.length_append, List.length_replicate]; omega, ?_⟩
  unfold Dk.pad
  by_cases h : 64 * L < xs.length + m
  · rw [if_pos h]
    have h1 : L * 64 ≤ xs.length := by omega
    rw [List.take_append_of_le_length (by omega), List.length_take, Nat.min_eq_left h1, show (L * 64 + 63) / 64 * 64 - L * 64 = 0 by omega, List.replicate_zero, List.append_nil, Nat.mul_comm]
  · rw [if_neg h]
    by_cases h2 : xs.length ≤ L * 64
    · rw [List.take_of_length_le h2]
      congr 2
      omega
    · have h3 : xs.length + m ≤ 64 * L := by omega
      omega
theorem src_on {w w' : World} {F : Nat → Prop} {A : Option Addr} {n c : Nat} {xs : Bytes} (h : Src w (.slice A n c) xs) (ho : Only F w w') (hF : ∀ ad, A = some ad → 0 < n → ¬ F ad.block) : Src w' (.slice A n c) xs := by
  obtain ⟨A', c', e, ht, h1⟩ := h
  cases e
  exact ⟨A, c, rfl, ht.only ho fun ad hn e => hF ad e hn, h1⟩
theorem own8_off {w w2 : World} {b n c : Nat} {A : Option Addr} {xs : Bytes} (h : w.ownsRow w2.heap.size 5 1 (.slice A n c) n (cb xs)) (hb : b < w2.heap.size) {ad : Addr} (hA : A = some ad) : ¬ ad.block = b := fun e => by
  obtain ⟨A', c', e2, _, _, _, _, h5⟩ := raw_of_own h
  cases e2
  obtain ⟨g, e3, _, e4, _⟩ := h5 ad hA
  rw [e3] at e
  have e5 : g = b := e
  omega
theorem src_cut {w : World} {ad : Addr} {n q c : Nat} {xs : Bytes} (h : Src w (.slice (some ad) n c) xs) (hq : q ≤ n) (hc : q ≤ c) : Src w (.slice (some ad) q c) (xs.take q) := by
  obtain ⟨A', c', e, ht, h1, h2, h3⟩ := h
  cases e
  have hl : (xs.take q).length = q := by rw [List.length_take]; omega
  refine ⟨some ad, c, by rw [hl], ?_, h1, by rw [hl]; exact hc, h3⟩
  rw [hl]
  exact ht.take q hq
end Go.Proofs.YtbpldkhgiddmlaaGreatDoor
