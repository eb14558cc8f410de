/-
  alive of the laws of over: a value of 300 bytes in two pages.
-/
import Derived.Test.YtbgnfocfnjlabaaDoorOde
import Derived.Test.YtbgnfocfnjlabaaDoorOre
set_option linter.unusedVariables false
namespace Go.Proofs.YtbgnfocfnjlabaaDoor
open Go.RowKit

/-- What the reader of alive tells. -/
def alA (p0 p1 : Bytes) (id many : Int) : Int × Bytes := if id < 2 ∨ 3 < id ∨ many ≠ 1 then (11, []) else if id = 3 then (0, p0) else (0, p1)
theorem alA_3 (p0 p1 : Bytes) : alA p0 p1 3 1 = (0, p0) := by unfold alA; rw [if_neg (by omega), if_pos rfl]
theorem alA_2 (p0 p1 : Bytes) : alA p0 p1 2 1 = (0, p1) := by unfold alA; rw [if_neg (by omega), if_neg (by omega)]
theorem al_ok : encOk 1 300 [3, 2] = true := by kernel_rfl
theorem al_many : manyP 1 300 = 2 := by kernel_rfl
section
variable {p0 p1 sv : Bytes}
theorem al_ask (h0 : p0.length = 256) : askP (alA p0 p1) 3 1 = (0, p0) := by
  unfold askP
  rw [alA_3, if_neg (by simp), if_neg (by simp [h0])]
theorem al_ask2 (h1 : p1.length = 256) : askP (alA p0 p1) 2 1 = (0, p1) := by
  unfold askP
  rw [alA_2, if_neg (by simp), if_neg (by simp [h1])]
theorem al_beh (h1 : p1.length = 256) (hE : hdE p0 = 0) (hX : hdX p0 = 2) : behP (alA p0 p1) p0 = (2, p1, true) := by
  unfold behP
  rw [hX, if_pos ⟨hE, by decide⟩]
  show ((2 : Int), (askP (alA p0 p1) 2 1).2, decide ((askP (alA p0 p1) 2 1).1 = 0)) = _
  rw [al_ask2 h1]
  rfl
theorem al_ch (h1 : p1.length = 256) (hE : hdE p0 = 0) (hX : hdX p0 = 2) (hb : (bodies [p0, p1]).take 300 = sv) (hl : (bodies [p0, p1]).length = 496) (hp : linksB 1 sv 248 [3, 2] (List.range 2) = [p0, p1]) : chR 1 248 300 3 p0 (folP (alA p0 p1) 1 p0) = (sv, [3, 2], true) := by
  have hf : folP (alA p0 p1) 1 p0 = some [(2, p1)] := by
    rw [folP, al_beh h1 hE hX, if_pos rfl]
    rfl
  rw [hf]
  show (if (bodies [p0, p1]).length < 300 then _ else ((bodies [p0, p1]).take 300, [3, 2], encOk 1 300 [3, 2] && decide (linksB 1 ((bodies [p0, p1]).take 300) 248 [3, 2] (List.range 2) = [p0, p1]))) = _
  rw [hl, if_neg (by decide), hb, al_ok, hp]
  simp
end
/-- The two pages. -/
def alP (k : Nat) : Bytes := linkB 1 sevs 248 [3, 2] k k
theorem al_pages : linksB 1 sevs 248 [3, 2] (List.range 2) = [alP 0, alP 1] := by kernel_rfl
theorem al_len0 : (alP 0).length = 256 := by kernel_rfl
theorem al_len1 : (alP 1).length = 256 := by kernel_rfl
theorem al_hdE : hdE (alP 0) = 0 := by kernel_rfl
theorem al_hdG : hdG (alP 0) = 1 := by kernel_rfl
theorem al_hdX : hdX (alP 0) = 2 := by kernel_rfl
theorem al_bodies : (bodies [alP 0, alP 1]).take 300 = sevs := by kernel_rfl
theorem al_blen : (bodies [alP 0, alP 1]).length = 496 := by kernel_rfl

set_option maxRecDepth 100000 in
set_option maxHeartbeats 1600000 in
/-- The reader itself. -/
theorem alive1_c (w : World) (b : Nat) (RA : Option Addr) (rc : Nat) (p0 p1 : Bytes) (id many : Int) (hb : Blk w b 43 [.slice RA 2 rc]) (hr : Rw pgE w (.slice RA 2 rc) [p0, p1]) :
    Calls Tryd.prog 24 #[.int .i64 id, .int .i64 many, .pointer (some ⟨b, 0, none⟩)] w fun e W' => ∃ v, e = .returned (.tuple #[v, .int .i64 (alA p0 p1 id many).1]) ∧ Src W' v (alA p0 p1 id many).2 ∧ w = W' := by
  have q0 := hb.cell 0
  obtain ⟨rb, ro, x0, P0, c0, rfl, _, hx0, k0, s0⟩ := pg_at (k := 0) hr (by omega)
  obtain ⟨_, _, x1, P1, c1, e1, _, hx1, k1, s1⟩ := pg_at (k := 1) hr (by omega)
  cases e1
  rw [Nat.add_zero] at k0
  obtain rfl : p0 = x0 := Option.some.inj hx0
  obtain rfl : p1 = x1 := Option.some.inj hx1
  have HS0 := Lib.hid s0
  have HS1 := Lib.hid s1
  obtain ⟨z, hz⟩ : ∃ z, z = alA p0 p1 id many := ⟨_, rfl⟩
  rw [← hz]
  unfold alA at hz
  clear hr hb hx0 hx1 s0 s1
  by_cases h1 : id < 2
  · rw [if_pos (.inl h1)] at hz
    subst hz
    have d1 : decide (id < 2) = true := decide_eq_true h1
    go_enter Tryd.func24, Tryd.ntmps24
    go_wp2
    go_ret2
    exact ⟨_, rfl, Src.nil_ _, rfl⟩
  have d1 : decide (id < 2) = false := decide_eq_false h1
  by_cases h2 : 3 < id
  · rw [if_pos (.inr (.inl h2))] at hz
    subst hz
    have d2 : decide (3 < id) = true := decide_eq_true h2
    go_enter Tryd.func24, Tryd.ntmps24
    go_wp2
    go_ret2
    exact ⟨_, rfl, Src.nil_ _, rfl⟩
  have d2 : decide (3 < id) = false := decide_eq_false h2
  by_cases h3 : many = 1
  · subst h3
    rw [if_neg (by omega)] at hz
    rcases (by omega : id = 3 ∨ id = 2) with rfl | rfl
    · rw [if_pos rfl] at hz
      subst hz
      go_enter Tryd.func24, Tryd.ntmps24
      go_wp2
      go_ret2
      exact ⟨_, rfl, HS0.out, rfl⟩
    · rw [if_neg (by omega)] at hz
      subst hz
      go_enter Tryd.func24, Tryd.ntmps24
      go_wp2
      go_ret2
      exact ⟨_, rfl, HS1.out, rfl⟩
  · rw [if_pos (.inr (.inr h3))] at hz
    subst hz
    have d3 : (many != 1) = true := by rw [bne_iff_ne]; exact h3
    go_enter Tryd.func24, Tryd.ntmps24
    go_wp2
    go_ret2
    exact ⟨_, rfl, Src.nil_ _, rfl⟩

/-- It is such a reader. -/
theorem al_rdg (w : World) (hG : Gens w) (b : Nat) (RA : Option Addr) (rc : Nat) (p0 p1 : Bytes) (h0 : p0.length = 256) (h1 : p1.length = 256) (hb : Blk w b 43 [.slice RA 2 rc]) (hr : Rw pgE w (.slice RA 2 rc) [p0, p1]) :
    Rdg w.heap.size (fun _ => False) (fun _ W => Only (w.heap.size ≤ ·) w W) 24 #[.pointer (some ⟨b, 0, none⟩)] (alA p0 p1) where
  enters := enters_of Tryd.func24 (by kernel_rfl) rfl
  low := fun _ h => h.elim
  zero := fun h => h
  gb := hG.1
  keep := fun s W W' h _ ho => h.trans ho
  len := fun id many => by unfold alA; split <;> (try split) <;> simp [h0, h1]
  call := fun s W id many _ h hn => (alive1_c W b RA rc p0 p1 id many (hb.later h) (hr.later h)).mono fun e W' ⟨v, h1, h2, h3⟩ => ⟨v, h1, h2, h3 ▸ h, h3 ▸ Only.refl _ _⟩

theorem al_dec (w : World) (hG : Gens w) (b : Nat) (RA : Option Addr) (rc : Nat) (p0 p1 sv : Bytes) (h0 : p0.length = 256) (h1 : p1.length = 256) (hE : hdE p0 = 0) (hgn : hdG p0 = 1) (hX : hdX p0 = 2) (hb : (bodies [p0, p1]).take 300 = sv) (hl : (bodies [p0, p1]).length = 496) (hp : linksB 1 sv 248 [3, 2] (List.range 2) = [p0, p1])
    (hB : Blk w b 43 [.slice RA 2 rc]) (hr : Rw pgE w (.slice RA 2 rc) [p0, p1]) :
    Calls Tryd.prog 12 #[.func (.func 24) #[] #[.pointer (some ⟨b, 0, none⟩)], .int .i64 3, .int .i64 300] w fun e w' => ∃ v i, e = .returned (.tuple #[.int .i64 1, v, i, .int .i64 0]) ∧ Src w' v sv ∧ Ints w' i [3, 2] ∧ Only (w.heap.size ≤ ·) w w' := by
  have R := al_rdg w hG b RA rc p0 p1 h0 h1 hB hr
  have ha := al_ask (p1 := p1) h0
  have hc := al_ch h1 hE hX hb hl hp
  have hd := dec_chain R [] w 3 300 (Only.refl _ _) (Nat.le_refl _) hG (by rw [ha]) (by rw [ha]; exact hE) 1 2 (by rw [ha, hgn]; rfl) al_many (by decide) rfl ([] ++ [(3, 1)] ++ folS (alA p0 p1) 1 p0) (sv, [3, 2], true) (fun W A c hJ hn hGW hf => by
    rw [ha] at hf ⊢
    have := chainV_c R ([] ++ [(3, 1)]) W 1 3 248 1 300 A p0.length c p0 hJ hn hGW (.inl rfl) rfl hf rfl (by omega) ⟨by decide, by decide⟩ al_many
    rw [hc] at this
    exact this)
  rw [if_pos rfl] at hd
  refine hd.mono ?_
  rintro e w' ⟨v, i, rfl, hv, hi, _, ho⟩
  exact ⟨v, i, rfl, hv, hi, ho.mono fun k h => h.elim (fun h => h.elim) (fun h => h)⟩

set_option maxRecDepth 100000 in
set_option maxHeartbeats 3200000 in
theorem oalive_c (w : World) (hG : Gens w) : Calls Tryd.prog 8 #[] w (Told w (.bool true)) := by
  have hmf : ∀ (fn : Fn) (first cap : Array Value) (w : World), (Instr.makeFunc fn first cap).run Tryd.prog w = .ok (.func fn first cap) w := fun _ _ _ _ => rfl
  have HG := Lib.hid hG
  clear hG
  have HRP : Hid (Calls Tryd.prog 23 #[.slice (some ⟨w.heap.size, 0, none⟩) 1 1, .int .i64 300] (w.alloc (.cells #[sev8] 5)) fun e w' => ∃ A c, e = .returned (.slice A 300 c) ∧ Src w' (.slice A 300 c) sevs ∧ Only (w.heap.size ≤ ·) w w') := Lib.hid ((Repeat_s _ w.heap.size (Blk.new w 5 [sev8])).mono fun e w' ⟨A, c, h1, h2, h3⟩ => ⟨A, c, h1, h2, on_new ((Only.refl _ w).alloc (fun _ h => h) _) h3⟩)
  unfold sev8 at HRP
  obtain ⟨sv, hsv⟩ : ∃ sv, sv = sevs := ⟨_, rfl⟩
  rw [← hsv] at HRP
  obtain ⟨p0, hp0⟩ : ∃ p, p = alP 0 := ⟨_, rfl⟩
  obtain ⟨p1, hp1⟩ : ∃ p, p = alP 1 := ⟨_, rfl⟩
  have HEN : Hid (∀ (W : World) (A : Option Addr) (c g : Nat), Gens W → Src W (.slice A 300 c) sv → Blk W g 3 [.int .i64 3, .int .i64 2] → Calls Tryd.prog 17 #[.int .i64 1, .slice A 300 c, .slice (some ⟨g, 0, none⟩) 2 2] W fun e w' => ∃ RA rc, e = .returned (.tuple #[.slice RA 2 rc, .int .i64 0]) ∧ Rw pgE w' (.slice RA 2 rc) [p0, p1] ∧ Only (W.heap.size ≤ ·) W w') := Lib.hid fun W A c g hW hs hb => by
    refine (OEncode_chain W 1 A (some ⟨g, 0, none⟩) 300 c 2 2 sv [3, 2] 248 hW (.inl rfl) rfl hs ?_ al_ok).mono ?_
    · exact ⟨_, _, rfl, Raw.blk (rest := []) hb, (fun e => by cases e), Nat.le_refl _, by omega⟩
    · rintro e w' ⟨r, rfl, hp, ho⟩
      rw [hsv, al_pages, ← hp0, ← hp1] at hp
      have h1 := hp.rw_
      obtain ⟨RA, rc, _, rfl, _⟩ := h1
      exact ⟨RA, rc, rfl, hp.rw_, ho⟩
  have HDE : Hid (∀ (W : World) (b : Nat) (RA : Option Addr) (rc : Nat), Gens W → Blk W b 43 [.slice RA 2 rc] → Rw pgE W (.slice RA 2 rc) [p0, p1] → Calls Tryd.prog 12 #[.func (.func 24) #[] #[.pointer (some ⟨b, 0, none⟩)], .int .i64 3, .int .i64 300] W fun e w' => ∃ v i, e = .returned (.tuple #[.int .i64 1, v, i, .int .i64 0]) ∧ Src w' v sv ∧ Ints w' i [3, 2] ∧ Only (W.heap.size ≤ ·) W w') := Lib.hid fun W b RA rc hW hB hr =>
    al_dec W hW b RA rc p0 p1 sv (by rw [hp0]; exact al_len0) (by rw [hp1]; exact al_len1) (by rw [hp0]; exact al_hdE) (by rw [hp0]; exact al_hdG) (by rw [hp0]; exact al_hdX) (by rw [hp0, hp1, hsv]; exact al_bodies) (by rw [hp0, hp1]; exact al_blen) (by rw [hp0, hp1, hsv]; exact al_pages) hB hr
  have HEQ : Hid (∀ (W : World) (v u : Value), Src W v sv → Src W u sv → Calls Tryd.prog 16 #[v, u] W fun e w' => e = .returned (.bool true) ∧ W = w') := Lib.hid fun W v u h h' => by have := Equal_c W v u sv sv h h'; rwa [decide_eq_true rfl] at this
  have HM : Hid (∀ W, Gens W → Calls Tryd.prog 7 #[.int .i64 3, .int .i64 241] W (Told W (.int .i64 2))) := Lib.hid fun W hW => by have := OMany_c W 3 241 hW; rwa [show manyP 3 241 = 2 by kernel_rfl] at this
  have HS2 : Hid (∀ W, Calls Tryd.prog 9 #[.int .i64 2] W fun e w' => e = .returned (.bool true) ∧ W = w') := Lib.hid fun W => OSingle_c W 2
  have HS3 : Hid (∀ W, Calls Tryd.prog 9 #[.int .i64 3] W fun e w' => e = .returned (.bool false) ∧ W = w') := Lib.hid fun W => OSingle_c W 3
  clear hsv hp0 hp1
  go_enter Tryd.func8, Tryd.ntmps8
  go_wp2_with (first
    | (go_at_call 23; go_loud (refine HRP.out.mono ?_; rintro e w1 ⟨A, c, rfl, hs, ho⟩; have HSV := Lib.hid hs; have HO := Lib.hid ho; clear hs ho))
    | (go_at_call 17; go_loud (have ho1 := HO.out.alloc (fun _ h => h) (.cells #[.int .i64 3, .int .i64 2] 3); refine (HEN.out _ A c w1.heap.size (HG.out.later ho1) (HSV.out.later ((Only.refl _ w1).alloc (fun _ h => h) _)) (Blk.new w1 3 [.int .i64 3, .int .i64 2])).mono ?_; rintro e w2 ⟨RA, rc, rfl, hr, ho2⟩; have HRR := Lib.hid hr; (replace HSV := Lib.hid ((HSV.out.later ((Only.refl _ w1).alloc (fun _ h => h) _)).later ho2)); (replace HO := Lib.hid (on_new ho1 ho2)); clear ho1 ho2 hr))
    | (go_at_call 12; go_loud (have ho3 := HO.out.alloc (fun _ h => h) (.cells #[.slice RA 2 rc] 43); have ho4 : Only (w2.heap.size ≤ ·) w2 (w2.alloc (.cells #[.slice RA 2 rc] 43)) := (Only.refl _ w2).alloc (fun _ h => h) _; refine (HDE.out _ w2.heap.size RA rc (HG.out.later ho3) (Blk.new w2 43 [.slice RA 2 rc]) (HRR.out.later ho4)).mono ?_; rintro e w3 ⟨v, u, rfl, hv, hu, ho5⟩; have HV := Lib.hid hv; have q0 := (Blk.later (Blk.new w2 43 [.slice RA 2 rc]) ho5).cell 0; have hu' := hu; (obtain ⟨IA, ic, rfl, _⟩ := hu'); (obtain ⟨ib, io, x1, rfl, _, hx1, k1⟩ := hu.at_ (k := 1) (by decide)); (obtain rfl : (2 : Int) = x1 := Option.some.inj hx1); have hcp := hu.cap; (replace HSV := Lib.hid ((HSV.out.later ho4).later ho5)); (replace HO := Lib.hid (on_new ho3 ho5)); clear ho3 ho4 ho5 hu hv hx1))
    | (go_at_call 16; go_loud (refine (HEQ.out w3 _ _ HSV.out HV.out).mono ?_; rintro e w' ⟨rfl, rfl⟩))
    | (go_at_call 7; go_loud (refine (HM.out _ (HG.out.later HO.out)).mono ?_; rintro e w5 ⟨rfl, ho6⟩; (replace HO := Lib.hid (on_new HO.out ho6)); clear ho6))
    | (go_at_call 9; first | (refine (HS2.out _).mono ?_; rintro e w' ⟨rfl, rfl⟩) | (refine (HS3.out _).mono ?_; rintro e w' ⟨rfl, rfl⟩)))
  go_ret
  exact ⟨rfl, HO.out⟩
end Go.Proofs.YtbgnfocfnjlabaaDoor
