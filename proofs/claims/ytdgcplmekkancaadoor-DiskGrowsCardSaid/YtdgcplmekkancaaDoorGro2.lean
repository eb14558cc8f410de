/-
  Grow of a disk.
-/
import Derived.Test.YtdgcplmekkancaaDoorGrow
set_option linter.unusedVariables false
namespace Go.Proofs.YtdgcplmekkancaaDoor
open Go.RowKit

theorem grow_wf {d : Dsk} (h : d.WF) {m : Nat} (hm : d.n + m ≤ d.limit) : Dsk.WF { d with n := d.n + m, dur := d.dur ++ List.replicate (m * 64) 0 } :=
  ⟨hm, h.lim, by simp [h.len]; omega, fun e he => ⟨Nat.lt_of_lt_of_le (h.fits e he).1 (Nat.le_add_right _ _), (h.fits e he).2⟩, h.left⟩

theorem grow_holds {w w2 w3 : World} {F : Nat → Prop} (hF : ∀ k, w.heap.size ≤ k → F k) {p : Nat} {d : Dsk} (hw : d.WF) {Ad As Ar : Option Addr} {cd cs cr : Nat}
    (hd : DiskIn w p d d.see Ad As Ar cd cs cr) (hf : ∀ k, Foot p Ad As Ar k → F k) (o : Obj) {m g cap g' cap' : Nat} (hm : d.n + m ≤ d.limit)
    (ho2 : w2.ownsRow 0 47 64 (.slice (some ⟨g, 0, none⟩) (d.n + m) cap) (d.n + m) (cb d.dur ++ List.replicate (m * 64) z8)) (hg2 : (w.alloc o).grownBy w2 (Value.ownBlock (.slice Ad d.n cd)))
    (hat : Value.ownBlock (.slice Ad d.n cd) = some g ∨ g = w.heap.size + 1)
    (ho3 : w3.ownsRow 0 47 64 (.slice (some ⟨g', 0, none⟩) (d.n + m) cap') (d.n + m) (cb d.see ++ List.replicate (m * 64) z8)) (hg3 : (w2.setCell ⟨p, 1, none⟩ (.slice (some ⟨g, 0, none⟩) (d.n + m) cap)).grownBy w3 (Value.ownBlock (.slice As d.n cs)))
    (hat3 : Value.ownBlock (.slice As d.n cs) = some g' ∨ g' = w2.heap.size) :
    Holds (w3.setCell ⟨p, 2, none⟩ (.slice (some ⟨g', 0, none⟩) (d.n + m) cap')) F p { d with n := d.n + m, dur := d.dur ++ List.replicate (m * 64) 0 } ∧
      Only F w (w3.setCell ⟨p, 2, none⟩ (.slice (some ⟨g', 0, none⟩) (d.n + m) cap')) := by
  have hplt := hd.blk.lt
  have hs2 : w.heap.size + 1 ≤ w2.heap.size := by have := hg2.size; simpa using this
  have hs3 : w2.heap.size ≤ w3.heap.size := by have := hg3.size; simpa [World.setCell] using this
  have obd : ∀ k, Value.ownBlock (.slice Ad d.n cd) = some k → ∃ a, Ad = some a ∧ a.block = k := by
    intro k hk
    cases Ad with
    | none => simp [Value.ownBlock] at hk
    | some a => exact ⟨a, rfl, by simpa [Value.ownBlock] using hk⟩
  have obs : ∀ k, Value.ownBlock (.slice As d.n cs) = some k → ∃ a, As = some a ∧ a.block = k := by
    intro k hk
    cases As with
    | none => simp [Value.ownBlock] at hk
    | some a => exact ⟨a, rfl, by simpa [Value.ownBlock] using hk⟩
  -- what stays from w to w2, and from w2 (behind the store) to w3
  have u2 : ∀ k, k < w.heap.size → (∀ a, Ad = some a → a.block ≠ k) → w2.heap[k]? = w.heap[k]? := fun k hk hne =>
    (hg2.block k (by simp; omega) (fun e => by obtain ⟨a, ha, hb⟩ := obd k e.symm; exact hne a ha hb)).trans (Below.heap_alloc w o k hk)
  have u3 : ∀ k, k < w2.heap.size → (∀ a, As = some a → a.block ≠ k) → k ≠ p → w3.heap[k]? = w2.heap[k]? := fun k hk hne hp =>
    (hg3.block k (by simpa [World.setCell] using hk) (fun e => by obtain ⟨a, ha, hb⟩ := obs k e.symm; exact hne a ha hb)).trans (Below.heap_setCell w2 ⟨p, 1, none⟩ _ k hp)
  have u4 : ∀ k, k ≠ p → (w3.setCell ⟨p, 2, none⟩ (.slice (some ⟨g', 0, none⟩) (d.n + m) cap')).heap[k]? = w3.heap[k]? := fun k hp => Below.heap_setCell w3 ⟨p, 2, none⟩ _ k hp
  have hgp : g ≠ p := by
    rcases hat with h | h
    · obtain ⟨a, ha, hb⟩ := obd g h
      rw [← hb]; exact hd.ne_d a ha
    · omega
  have hg'p : g' ≠ p := by
    rcases hat3 with h | h
    · obtain ⟨a, ha, hb⟩ := obs g' h
      rw [← hb]; exact hd.ne_s a ha
    · omega
  have hglt : g < w2.heap.size := by
    obtain ⟨_, cur, hgg, hb, _⟩ := owns_form ho2 rfl
    cases hgg
    exact hb.lt
  have hgs : ∀ a, As = some a → a.block ≠ g := by
    intro a ha
    rcases hat with h | h
    · obtain ⟨b, hb, hbg⟩ := obd g h
      have := hd.apart b a hb ha
      omega
    · have := hd.lt a.block (.inr (.inr (.inl ⟨a, ha, rfl⟩)))
      omega
  have bp : Blk (w3.setCell ⟨p, 2, none⟩ (.slice (some ⟨g', 0, none⟩) (d.n + m) cap')) p 50 (((fieldsOf d Ad As Ar cd cs cr).set 1 (.slice (some ⟨g, 0, none⟩) (d.n + m) cap)).set 2 (.slice (some ⟨g', 0, none⟩) (d.n + m) cap')) := by
    have b2 : Blk w2 p 50 (fieldsOf d Ad As Ar cd cs cr) := (u2 p hplt fun a ha => hd.ne_d a ha).trans hd.blk
    have b2' := b2.set_ 1 (.slice (some ⟨g, 0, none⟩) (d.n + m) cap)
    have b3 : Blk w3 p 50 _ := (hg3.block p (by simp [World.setCell]; omega) (fun e => by obtain ⟨a, ha, hb⟩ := obs p e.symm; exact hd.ne_s a ha hb)).trans b2'
    exact b3.set_ 2 _
  have see : Dsk.see { d with n := d.n + m, dur := d.dur ++ List.replicate (m * 64) 0 } = d.see ++ List.replicate (m * 64) 0 := look_grown d.row d.dur _ hw.fits hw.len
  refine ⟨⟨grow_wf hw hm, some ⟨g, 0, none⟩, some ⟨g', 0, none⟩, Ar, cap, cap', cr, ⟨bp, ?_, ?_, ?_, ?_⟩, ?_⟩, ?_⟩
  · refine owns_far (w := w2) (by rw [cb_append, cb_replicate]; exact ho2) fun a ha => ?_
    cases ha
    exact (u4 g hgp).trans (u3 g hglt hgs hgp)
  · refine owns_far (w := w3) (by rw [see, cb_append, cb_replicate]; exact ho3) fun a ha => ?_
    cases ha
    exact u4 g' hg'p
  · refine owns_far (w := w) hd.row fun a ha => ?_
    have hlt := hd.lt a.block (.inr (.inr (.inr ⟨a, ha, rfl⟩)))
    exact ((u4 _ (hd.ne_r a ha)).trans (u3 _ (by omega) (fun b hb => (hd.ne_rs a b ha hb).symm) (hd.ne_r a ha))).trans (u2 _ hlt (fun b hb => (hd.ne_rd a b ha hb).symm))
  · intro a b ha hb
    cases ha; cases hb
    show g ≠ g'
    rcases hat3 with h | h
    · obtain ⟨b, hb, hbg⟩ := obs g' h
      have := hgs b hb
      omega
    · omega
  · rintro k (rfl | ⟨a, ha, rfl⟩ | ⟨a, ha, rfl⟩ | h)
    · exact hf _ (.inl rfl)
    · cases ha
      rcases hat with h | h
      · exact hf _ (.inr (.inl (obd g h)))
      · exact hF _ (by show w.heap.size ≤ g; omega)
    · cases ha
      rcases hat3 with h | h
      · exact hf _ (.inr (.inr (.inl (obs g' h))))
      · exact hF _ (by show w.heap.size ≤ g'; omega)
    · exact hf _ (.inr (.inr (.inr h)))
  · have h1 : Only F w (w.alloc o) := (Only.refl _ _).alloc hF o
    have h2 : Only F w w2 := h1.grown hg2 hF (fun k hk => hf _ (.inr (.inl (obd k hk))))
    have h3 := h2.setCell (p := ⟨p, 1, none⟩) (hf p (.inl rfl)) (.slice (some ⟨g, 0, none⟩) (d.n + m) cap)
    have h4 := h3.grown hg3 hF (fun k hk => hf _ (.inr (.inr (.inl (obs k hk)))))
    exact h4.setCell (p := ⟨p, 2, none⟩) (hf p (.inl rfl)) _

theorem z8_one (k : Nat) : ∀ u ∈ List.replicate k z8, u.oneCell' = true := fun u hu => by rw [(List.mem_replicate.1 hu).2]; rfl

theorem grow_mid {w w2 : World} {p : Nat} {d : Dsk} {Ad As Ar : Option Addr} {cd cs cr : Nat} (hd : DiskIn w p d d.see Ad As Ar cd cs cr) {zs : List Value} {m g cap : Nat}
    (hg2 : (w.alloc (.cells zs.toArray 47)).grownBy w2 (Value.ownBlock (.slice Ad d.n cd))) (V : Value) :
    (∀ i, w2.cell? ⟨p, i, none⟩ = w.cell? ⟨p, i, none⟩) ∧ (∀ i, w2.frozen? ⟨p, i, none⟩ = false) ∧ (w2.setCell ⟨p, 1, none⟩ V).ownsRow 0 47 64 (.slice As d.n cs) d.n (cb d.see) ∧ Blk (w2.setCell ⟨p, 1, none⟩ V) w.heap.size 47 zs := by
  have hplt := hd.blk.lt
  have obd : ∀ k, Value.ownBlock (.slice Ad d.n cd) = some k → ∃ a, Ad = some a ∧ a.block = k := by
    intro k hk
    cases Ad with
    | none => simp [Value.ownBlock] at hk
    | some a => exact ⟨a, rfl, by simpa [Value.ownBlock] using hk⟩
  have u2 : ∀ k, k < w.heap.size → (∀ a, Ad = some a → a.block ≠ k) → w2.heap[k]? = w.heap[k]? := fun k hk hne =>
    (hg2.block k (by simp; omega) (fun e => by obtain ⟨a, ha, hb⟩ := obd k e.symm; exact hne a ha hb)).trans (Below.heap_alloc w _ k hk)
  have hp2 : w2.heap[p]? = w.heap[p]? := u2 p hplt fun a ha => hd.ne_d a ha
  have b2 : Blk w2 p 50 _ := hp2.trans hd.blk
  refine ⟨fun i => World.cell?_of_block (w := w) (a := ⟨p, i, none⟩) hp2, b2.frozen, ?_, ?_⟩
  · refine owns_far hd.seen fun a ha => ?_
    exact (Below.heap_setCell w2 ⟨p, 1, none⟩ V _ (hd.ne_s a ha)).trans (u2 _ (hd.lt _ (.inr (.inr (.inl ⟨a, ha, rfl⟩)))) (fun b hb => hd.apart b a hb ha))
  · have h := Blk.new w 47 zs
    have h2 : Blk w2 w.heap.size 47 zs := (hg2.block _ (by simp) (fun e => by obtain ⟨a, ha, hb⟩ := obd _ e.symm; have := hd.lt a.block (.inr (.inl ⟨a, ha, rfl⟩)); omega)).trans h
    exact h2.far (p := ⟨p, 1, none⟩) (show w.heap.size ≠ p by omega) V

theorem grow_mid2 {w w2 w3 : World} {p : Nat} {d : Dsk} {Ad As Ar : Option Addr} {cd cs cr : Nat} (hd : DiskIn w p d d.see Ad As Ar cd cs cr) {V : Value}
    (hc : ∀ i, w2.cell? ⟨p, i, none⟩ = w.cell? ⟨p, i, none⟩) (hg3 : (w2.setCell ⟨p, 1, none⟩ V).grownBy w3 (Value.ownBlock (.slice As d.n cs))) :
    w3.cell? ⟨p, 2, none⟩ = some (.slice As d.n cs) ∧ w3.frozen? ⟨p, 2, none⟩ = (w2.setCell ⟨p, 1, none⟩ V).frozen? ⟨p, 2, none⟩ := by
  have h2 : w2.cell? ⟨p, 2, none⟩ = some (.slice As d.n cs) := (hc 2).trans (hd.blk.cell 2)
  have hlt : p < w2.heap.size := World.block_lt_of_cell? w2 _ h2
  have hb : w3.heap[p]? = (w2.setCell ⟨p, 1, none⟩ V).heap[p]? := hg3.block p (by simpa [World.setCell] using hlt) (fun e => by
    cases As with
    | none => simp [Value.ownBlock] at e
    | some a => simp [Value.ownBlock] at e; exact hd.ne_s a rfl e.symm)
  refine ⟨?_, World.frozen?_of_block (w := w2.setCell ⟨p, 1, none⟩ V) (a := ⟨p, 2, none⟩) hb⟩
  rw [World.cell?_of_block (w := w2.setCell ⟨p, 1, none⟩ V) (a := ⟨p, 2, none⟩) hb, World.cell?_setCell_other _ _ _ _ (by simp)]
  exact h2

set_option maxRecDepth 100000 in
set_option maxHeartbeats 1600000 in
theorem Grow_c (w : World) (F : Nat → Prop) (hF : ∀ k, w.heap.size ≤ k → F k) (p : Nat) (d : Dsk) (h : Holds w F p d) (n : Int) (hn : -9223372036854775808 ≤ n) (hn' : n ≤ 9223372036854775807) :
    Calls Tryd.prog 8 #[.pointer (some ⟨p, 0, none⟩), .int .i64 n] w fun e w' => e = .returned (.int .i64 (d.grow n).2) ∧ Holds w' F p (d.grow n).1 ∧ Only F w w' := by
  have Hh := Lib.hid h
  obtain ⟨hw, Ad, As, Ar, cd, cs, cr, hd, hf⟩ := h
  have c0 : w.cell? ⟨p, 0, none⟩ = some (.int .i64 d.limit) := hd.blk.cell 0
  have c7 : w.cell? ⟨p, 7, none⟩ = some (.bool d.down) := hd.blk.cell 7
  have c1 : w.cell? ⟨p, 1, none⟩ = some (.slice Ad d.n cd) := hd.blk.cell 1
  have c2 : w.cell? ⟨p, 2, none⟩ = some (.slice As d.n cs) := hd.blk.cell 2
  have fz : ∀ i, w.frozen? ⟨p, i, none⟩ = false := hd.blk.frozen
  have hplt : p < w.heap.size := hd.blk.lt
  have Hd := Lib.hid hd
  have Hf := Lib.hid hf
  have Hw := Lib.hid hw
  have HF := Lib.hid hF
  clear hd hf hw hF
  by_cases hdn : d.down = true
  · have E : Hid (d.grow n = (d, 10)) := by show _ = _; simp [Dsk.grow, hdn]
    rw [hdn] at c7
    clear hdn
    go_enter Tryd.func8, Tryd.ntmps8
    go_wp2
    go_ret
    rw [E.out]
    exact ⟨rfl, Hh.out, Only.refl _ _⟩
  · have hdn' : d.down = false := by simpa using hdn
    rw [hdn'] at c7
    clear hdn
    by_cases hl : (d.limit : Int) < n
    · have E : Hid (d.grow n = (d, 12)) := by show _ = _; simp [Dsk.grow, hdn', hl]
      clear hdn'
      go_enter Tryd.func8, Tryd.ntmps8
      go_wp2
      go_ret
      rw [E.out]
      exact ⟨rfl, Hh.out, Only.refl _ _⟩
    · by_cases hs : (d.n : Int) < n
      · have E : Hid (d.grow n = ({ d with n := d.n + (n.toNat - d.n), dur := d.dur ++ List.replicate ((n.toNat - d.n) * 64) 0 }, 0)) := by
          show _ = _
          simp [Dsk.grow, hdn', hl]
          omega
        have Hm : Hid (d.n + (n.toNat - d.n) ≤ d.limit ∧ 0 < n.toNat - d.n ∧ d.limit ≤ 65536) := ⟨by omega, by omega, Hw.out.lim⟩
        clear hdn'
        generalize hmm : n.toNat - d.n = m at E Hm
        have hmi : n - (d.n : Int) = m := by omega
        obtain ⟨i0, hi0, hz0, hz1, hz2⟩ := info_parts info53
        have hmk : ∀ W : World, (Instr.makeSlice 43 (.int .i64 (n - (d.n : Int))) (.int .i64 (n - (d.n : Int)))).run Tryd.prog W = .ok (.slice (some ⟨W.heap.size, 0, none⟩) m m) (W.alloc (.cells (List.replicate (m * 64) z8).toArray 47)) := by
          intro W
          have hml := Hm.out
          have hr := run_make (P := Tryd.prog) W 43 47 i0 _ Tryd.underlying43 hi0 hz0 .i64 .i64 m m (by omega) (by omega) (by rw [hz2]; omega) (by omega)
          simp only [Int.toNat_natCast] at hr
          rw [made53, hz1] at hr
          rw [hmi]
          exact hr
        clear hmm hmi
        have Hn : Hid (∀ W : World, Blk W w.heap.size 47 (List.replicate (m * 64) z8) → ∀ j u, (List.replicate (m * 64) z8)[j]? = some u → W.cell? ((⟨w.heap.size, 0, none⟩ : Addr).add j) = some u) := by
          intro W hb j u hu
          rw [Addr.add_mid, hb.cell, Nat.zero_add]
          exact hu
        have Hb1 : Hid (Blk (w.alloc (.cells (Array.replicate (m * 64) z8) 47)) w.heap.size 47 (List.replicate (m * 64) z8)) := by
          have := Blk.new w 47 (List.replicate (m * 64) z8)
          rw [List.toArray_replicate] at this
          exact this
        have Ho1 : Hid ((w.alloc (.cells (Array.replicate (m * 64) z8) 47)).ownsRow 0 47 64 (.slice Ad d.n cd) d.n (cb d.dur)) := Hd.out.dur.alloc _
        have Hbound : Hid (d.n + m ≤ maxLen ∧ (d.n + m) * 64 ≤ 140737488355328 ∧ 0 < m) := by have := Hm.out; exact ⟨by simp only [maxLen]; omega, by omega, this.2.1⟩
        have Hi := Lib.hid (And.intro hi0 (And.intro hz0 (And.intro hz1 hz2)))
        clear hi0 hz0 hz1 hz2
        go_enter Tryd.func8, Tryd.ntmps8
        go_wp2_with (first | (go_at_call 7; refine (Size_c _ _ _ _ Hh.out).mono ?_; rintro e w' ⟨rfl, rfl⟩) | (at_builtin; refine wpList_append_lies _ rfl (.tmp 29) (.tmp 30) 43 rfl 0 47 i0 _ 64 64 Tryd.underlying43 Hi.out.1 Hi.out.2.1 Hi.out.2.2.1 Hi.out.2.2.2 (by rfl) (by omega) (.slice Ad d.n cd) d.n (cb d.dur) rfl Ho1.out ⟨w.heap.size, 0, none⟩ m m (List.replicate (m * 64) z8) rfl (by simp) (Hn.out _ Hb1.out) (z8_one _) Hbound.out.2.2 Hbound.out.1 Hbound.out.2.1 (Nat.zero_le _) (w.heap.size + 1) (by simp) ?_; intro g cap w2 ho2 hg2 hat hlt; have J2 := Lib.hid (And.intro ho2 (And.intro hg2 hat)); have J3 := Lib.hid (grow_mid (g := g) (cap := cap) (m := m) (zs := List.replicate (m * 64) z8) Hd.out (by rw [List.toArray_replicate]; exact hg2) (.slice (some ⟨g, 0, none⟩) (d.n + m) cap)); have k1 := (J3.out.1 1).trans c1; have k2 := (J3.out.1 2).trans c2; have kf := J3.out.2.1; clear ho2 hg2 hat hlt) | (at_builtin; refine wpList_append_lies _ rfl (.tmp 38) (.tmp 39) 43 rfl 0 47 i0 _ 64 64 Tryd.underlying43 Hi.out.1 Hi.out.2.1 Hi.out.2.2.1 Hi.out.2.2.2 (by rfl) (by omega) (.slice As d.n cs) d.n (cb d.see) rfl J3.out.2.2.1 ⟨w.heap.size, 0, none⟩ m m (List.replicate (m * 64) z8) rfl (by simp) (Hn.out _ J3.out.2.2.2) (z8_one _) Hbound.out.2.2 Hbound.out.1 Hbound.out.2.1 (Nat.zero_le _) w2.heap.size (by simp) ?_; intro g' cap' w3 ho3 hg3 hat3 hlt3; have J4 := Lib.hid (And.intro ho3 (And.intro hg3 hat3)); have J5 := Lib.hid (grow_mid2 Hd.out J3.out.1 hg3); have q2 := J5.out.1; have qf := J5.out.2; clear ho3 hg3 hat3 hlt3))
        go_ret
        rw [E.out]
        have hh := grow_holds HF.out Hw.out Hd.out Hf.out _ Hm.out.1 J2.out.1 J2.out.2.1 J2.out.2.2 J4.out.1 J4.out.2.1 J4.out.2.2
        exact ⟨rfl, hh.1, hh.2⟩
      · have E : Hid (d.grow n = (d, 0)) := by
          show _ = _
          rw [Dsk.grow, if_neg (by rw [hdn']; decide), if_neg hl, Nat.max_eq_left (by omega), show n.toNat - d.n = 0 by omega]
          simp
        clear hdn'
        go_enter Tryd.func8, Tryd.ntmps8
        go_wp2_with (go_at_call 7; refine (Size_c _ _ _ _ Hh.out).mono ?_; rintro e w' ⟨rfl, rfl⟩)
        go_ret
        rw [E.out]
        exact ⟨rfl, Hh.out, Only.refl _ _⟩
end Go.Proofs.YtdgcplmekkancaaDoor
