/-
  DiskKeeps: its walk, over a script and an image in memory.
-/
import Derived.Test.YtelgeddheheokaaDoes
import Derived.Test.YtelgeddheheokaaCopy
set_option linter.unusedVariables false
namespace Go.Proofs.Ytelgeddheheokaa
open Go.RowKit

theorem crash_all (d : Dsk) : (d.crash [true]).see = d.see := by
  have h : ∀ k, k ≤ d.row.length → kept [true] d.row k = d.row.take k := by
    intro k
    induction k with
    | zero => intro _; simp [kept]
    | succ k ih =>
      intro hk
      rw [kept_succ _ _ _ (by omega), ih (by omega), if_pos (by simp [keepAt, Nat.mod_one]), List.take_succ_eq_append_getElem (by omega)]
  show look (look d.dur (kept [true] d.row d.row.length)) [] = _
  rw [h _ (Nat.le_refl _), List.take_length]
  rfl
theorem crash_none (d : Dsk) : (d.crash []).see = d.dur := by
  have h : kept [] d.row d.row.length = [] := by simp [kept, keepAt]
  show look (look d.dur (kept [] d.row d.row.length)) [] = _
  rw [h]
  rfl

/-- Only new blocks have come; the older ones, of which there are b at least, are as they were. -/
def After (w w' : World) (b : Nat) : Prop := Only (w.heap.size ≤ ·) w w' ∧ b ≤ w.heap.size
theorem After.holds {w w' : World} {b : Nat} (h : After w w' b) {F : Nat → Prop} {p : Nat} {d : Dsk} (hh : Holds w F p d) : Holds w' F p d := hh.keep h.1 (fun j _ hj => by simp; omega)
theorem After.blk {w w' : World} {b : Nat} (h : After w w' b) {g : Nat} {t : TypeId} {cs : List Value} (hb : Blk w g t cs) : Blk w' g t cs := hb.only h.1 (by have := hb.lt; simp; omega)
theorem After.next {w w' w2 : World} {b : Nat} (h : After w w' b) (ho : Only (w'.heap.size ≤ ·) w' w2) : After w w2 b := ⟨h.1.trans (ho.mono fun j (hj : w'.heap.size ≤ j) => Nat.le_trans h.1.size hj), h.2⟩
theorem txt_of {w : World} {g n : Nat} {xs : Bytes} (h : Blk w g 5 (cb xs)) (hl : xs.length = n) : Txt w (some ⟨g, 0, none⟩) n xs :=
  ⟨hl, fun _ => ⟨_, rfl, fun j u hu => by rw [Addr.add_mid, h.cell, Nat.zero_add]; exact hu⟩⟩

/-- What holds at the head of each round. -/
def KRel (w : World) (p k : Nat) (v6 : Value) (wr : World) : Prop :=
  ∃ (d : Dsk) (g : Nat), v6 = .slice (some ⟨g, 0, none⟩) (d.n * 64) (d.n * 64) ∧ w.heap.size ≤ g ∧ Holds wr (fun j => w.heap.size ≤ j ∧ j ≠ g) p d ∧ Blk wr g 5 (cb d.dur) ∧
    d.down = false ∧ d.armed = false ∧ d.ops ≤ k ∧ d.row.length ≤ k * 64 ∧ d.n ≤ 64 ∧ Only (w.heap.size ≤ ·) w wr

theorem write_facts {d : Dsk} (hd : d.down = false) (ha : d.armed = false) (at_ : Int) (xs : Bytes) (hn : d.n ≤ 64) :
    (d.write at_ xs).1.dur = d.dur ∧ (d.write at_ xs).1.n = d.n ∧ (d.write at_ xs).1.down = false ∧ (d.write at_ xs).1.armed = false ∧ (d.write at_ xs).1.ops ≤ d.ops + 1 ∧ (d.write at_ xs).1.row.length ≤ d.row.length + 64 := by
  unfold Dsk.write
  rw [if_neg (by rw [hd]; decide)]
  split
  · exact ⟨rfl, rfl, hd, ha, Nat.le_succ _, Nat.le_add_right _ _⟩
  · split
    · exact ⟨rfl, rfl, hd, ha, Nat.le_succ _, Nat.le_add_right _ _⟩
    · rename_i h
      have hh : d.has at_ (xs.length / 64 : Nat) = true := by simpa using h
      have : xs.length / 64 ≤ 64 := by unfold Dsk.has at hh; simp at hh; omega
      simp [Dsk.op, ha, hd, chunks_length]
      omega
theorem sync_facts {d : Dsk} (hd : d.down = false) (ha : d.armed = false) :
    d.sync = ({ d with ops := d.ops + 1, dur := d.see, row := [] }, 0) := by
  simp [Dsk.sync, Dsk.op, hd, ha]

set_option maxRecDepth 100000 in
set_option maxHeartbeats 3200000 in
theorem keeps_walk (w : World) (A0 A1 : Option Addr) (n0 c0 n1 c1 : Nat) (xs : Bytes) (l : List Cl) (h0 : Src w (w.heap.size ≤ ·) A0 n0 (cb xs)) (hc0 : n0 ≤ c0) (hm0 : c0 ≤ maxLen) (h1 : Script w A1 n1 l) :
    Calls Try.prog 4 #[.slice A0 n0 c0, .slice A1 n1 c1] w fun e w' => e = .returned (.bool true) ∧ Only (w.heap.size ≤ ·) w w' := by
  have hm0' : (n0 : Int) ≤ 9223372036854775807 := by simp only [maxLen] at hm0; omega
  have hxl : xs.length = n0 := by have := h0.1; rwa [cb_length] at this
  have HSrc := Lib.hid h0
  have HScr := Lib.hid h1
  have Hm := Lib.hid (And.intro hc0 hm0)
  have HX := Lib.hid hxl
  clear h0 h1 hc0 hm0 hxl
  go_enter Try.func4, Try.ntmps4
  go_wp2_with fail
  refine (few_c w A1 n1 c1 l HScr.out).mono ?_
  rintro e w0 ⟨r, rfl, h60, ho0⟩
  have H60 := Lib.hid h60
  have HO0 := Lib.hid ho0
  clear h60 ho0
  have Halive : Hid (∀ W : World, Only (w.heap.size ≤ ·) w W → Calls Try.prog 8 #[] W fun e w' => e = .returned (.bool true) ∧ Only (w.heap.size ≤ ·) w w') := fun W hW =>
    (alive_c W).mono fun e w' ⟨he, ho⟩ => ⟨he, hW.trans (ho.mono fun k (hk : W.heap.size ≤ k) => Nat.le_trans hW.size hk)⟩
  cases r with
  | false =>
    go_wp2_with (go_at_call 8; refine (Halive.out _ HO0.out).mono ?_; rintro e w' ⟨rfl, ho⟩; have HF := Lib.hid ho; clear ho)
    all_goals
      go_ret
      exact ⟨rfl, HF.out⟩
  | true =>
    have Hn1 : Hid (n1 ≤ 60) := H60.out rfl
    by_cases hbig : 3000 < n0
    · have d1 : decide ((3000 : Int) < (n0 : Int)) = true := by simp; omega
      go_wp2_with (go_at_call 8; refine (Halive.out _ HO0.out).mono ?_; rintro e w' ⟨rfl, ho⟩; have HF := Lib.hid ho; clear ho)
      all_goals
        go_ret
        exact ⟨rfl, HF.out⟩
    · have d1 : decide ((3000 : Int) < (n0 : Int)) = false := by simp; omega
      have hsz0 := HO0.out.size
      have HL : Hid (∃ _ : True, Calls Try.prog 9 #[.slice A0 n0 c0, .int .i64 64] w0 fun e w' => ∃ p, e = .returned (.pointer (some ⟨p, 0, none⟩)) ∧ Hid (Holds w' (w0.heap.size ≤ ·) p (Dsk.load xs 64) ∧ Only (w0.heap.size ≤ ·) w0 w')) := by
        refine ⟨trivial, ?_⟩
        have hs : Src w0 (w0.heap.size ≤ ·) A0 xs.length (cb xs) := by
          have hx := HX.out
          refine ⟨by rw [cb_length], fun hp => ?_⟩
          obtain ⟨ad, e1, e2, e3⟩ := HSrc.out.2 (by omega)
          refine ⟨ad, e1, by omega, fun j u hu => ?_⟩
          exact (HO0.out.cell (p := ad.add j) (by rw [add_block]; exact e2)).trans (e3 j u hu)
        have hl := Load_c w0 (w0.heap.size ≤ ·) (fun _ h => h) A0 c0 xs 64 hs (by have := HX.out; have := Hm.out.1; omega) Hm.out.2
        rw [HX.out] at hl
        refine hl.mono ?_
        rintro e w' ⟨p, he, hh, ho⟩
        exact ⟨p, he, hh, ho⟩
      go_wp2_with (first | (go_at_call 9; refine HL.out.2.mono ?_; rintro e w1 ⟨p, rfl, H1⟩) | (go_at_call 11; refine (Image_c w1 _ p _ H1.out.1).mono ?_; rintro e w2 ⟨rfl, hb, ho⟩; have H2 := Lib.hid (And.intro hb ho); clear hb ho))
      have HK0 : Hid (KRel w p 0 (.slice (some ⟨w1.heap.size, 0, none⟩) ((Dsk.load xs 64).n * 64) ((Dsk.load xs 64).n * 64)) w2) := by
        have hs1 := H1.out.2.size
        refine ⟨Dsk.load xs 64, w1.heap.size, rfl, by omega, ?_, H2.out.1, rfl, rfl, Nat.le_refl _, Nat.le_refl _, ?_, ?_⟩
        · exact (H1.out.1.below.keep H2.out.2 (fun k hk _ => by simp; omega)).mono fun k _ hk => ⟨by omega, by omega⟩
        · have := (Dsk.WF.load xs 64).nl
          have e : (Dsk.load xs 64).limit = 64 := by simp [Dsk.load, cut]
          omega
        · exact (HO0.out.trans (H1.out.2.mono fun k (hk : w0.heap.size ≤ k) => Nat.le_trans hsz0 hk)).trans (H2.out.2.mono fun k (hk : w1.heap.size ≤ k) => by show w.heap.size ≤ k; omega)
      have hb60 : (n1 : Int) ≤ 60 := by have := Hn1.out; omega
      generalize (Dsk.load xs 64).n * 64 = n64 at HK0
      clear H1 H2
      go_loopw [6, 31] (fun v i wr => ∃ k : Nat, k ≤ n1 ∧ i = .int .i64 k ∧ KRel w p k v wr) (fun _ i _ => n1 - (intOf i).toNat)
      case atStart => exact ⟨0, Nat.zero_le _, rfl, HK0.out⟩
      case round =>
        obtain ⟨k, hk, rfl, d, g, rfl, hg, hh, hbg, hdn, har, hops, hrow, hn64, honly⟩ := hrel
        have HH := Lib.hid hh
        have HB := Lib.hid hbg
        have HD := Lib.hid (And.intro hdn (And.intro har (And.intro hops (And.intro hrow hn64))))
        have HO := Lib.hid honly
        have HG := Lib.hid hg
        have hglt := hbg.lt
        have hszr := honly.size
        clear hh hbg hdn har hops hrow hn64 honly hg HK0
        by_cases hlt : k < n1
        · obtain ⟨b, off, o, rfl, hb, _, hok, hr⟩ := HScr.out.at_ hlt
          have hr' := range_only hr HO.out (by omega)
          have q0 : wr.cell? ⟨b, off + k * 5, none⟩ = some (.int .i64 o.kind) := hr' 0 _ rfl
          have q1 : wr.cell? ⟨b, off + k * 5 + 1, none⟩ = some (.int .i64 o.at_) := hr' 1 _ rfl
          have q2 : wr.cell? ⟨b, off + k * 5 + 2, none⟩ = some (.int .i64 o.many) := hr' 2 _ rfl
          have q3 : wr.cell? ⟨b, off + k * 5 + 3, none⟩ = some (.slice o.B o.nB o.cB) := hr' 3 _ rfl
          have q4 : wr.cell? ⟨b, off + k * 5 + 4, none⟩ = some (.slice o.K o.nK o.cK) := hr' 4 _ rfl
          have hk0 : (0 : Int) ≤ (k : Int) := Int.natCast_nonneg _
          have hk1 : (k : Int) < (n1 : Int) := by omega
          have Hok := Lib.hid hok
          clear hr hr' hok
          by_cases hk2 : o.kind = 2
          · rw [hk2] at q0
            have HBx : Hid (Blk (wr.alloc (.cells #[.int .i64 2, .int .i64 o.at_, .int .i64 o.many, .slice o.B o.nB o.cB, .slice o.K o.nK o.cK] 34)) wr.heap.size 34 [.int .i64 2, .int .i64 o.at_, .int .i64 o.many, .slice o.B o.nB o.cB, .slice o.K o.nK o.cK]) := Blk.new wr 34 [.int .i64 2, .int .i64 o.at_, .int .i64 o.many, .slice o.B o.nB o.cB, .slice o.K o.nK o.cK]
            obtain ⟨d', E, hdE⟩ : ∃ d' E, d.write o.at_ o.xs = (d', E) := ⟨_, _, rfl⟩
            have hw := does_write (wr.alloc (.cells #[.int .i64 2, .int .i64 o.at_, .int .i64 o.many, .slice o.B o.nB o.cB, .slice o.K o.nK o.cK] 34)) (fun j => (w.heap.size ≤ j ∧ j ≠ g) ∧ j ≠ wr.heap.size) (fun j hj => by simp at hj; exact ⟨⟨by omega, by omega⟩, by omega⟩) p d ((HH.out.below.alloc _).mono fun j _ hj => ⟨hj.1, by omega⟩) (by have := HD.out.2.2.1; omega) (by have := HD.out.2.2.2.1; omega) o Hok.out.a1
              (Src.alloc ⟨by rw [cb_length]; exact Hok.out.hB.1, fun hp => by
                obtain ⟨ad, e1, e2, e3⟩ := Hok.out.hB.2 hp
                exact ⟨ad, e1, fun hx => by have := hx.1.1; omega, fun j u hu => (HO.out.cell (p := ad.add j) (by rw [add_block]; omega)).trans (e3 j u hu)⟩⟩ _) Hok.out.cB hk2
            have hfa := write_facts HD.out.1 HD.out.2.1 o.at_ o.xs HD.out.2.2.2.2
            rw [hdE] at hw hfa
            have HFa := Lib.hid hfa
            have HW := Lib.hid hw
            clear hw hfa hdE hk2
            cases hE : (E == 0)
            all_goals
              go_wp2_with (go_at_call 16; refine HW.out.mono ?_; rintro e w3 ⟨rfl, H3⟩; have k0 : w3.cell? ⟨wr.heap.size, 0, none⟩ = some (.int .i64 2) := (H3.out.2.cell (p := ⟨wr.heap.size, 0, none⟩) (by simp)).trans (HBx.out.cell 0))
              have HN : Hid (KRel w p (k + 1) (.slice (some ⟨g, 0, none⟩) (d.n * 64) (d.n * 64)) w3) := by
                obtain ⟨f1, f2, f3, f4, f5, f6⟩ := HFa.out
                obtain ⟨e1, e2, e3, e4, e5⟩ := HD.out
                refine ⟨d', g, by rw [f2], HG.out, H3.out.1.mono (fun j _ hj => hj.1), ?_, f3, f4, by omega, by omega, by omega, ?_⟩
                · rw [f1]
                  exact (HB.out.alloc _).only H3.out.2 (by simp)
                · exact (HO.out.alloc (fun _ h => h) _).trans (H3.out.2.mono fun j hj => hj.1.1)
              go_roundw
              case rel => exact ⟨k + 1, by omega, by go_num, HN.out⟩
              case measure => simp [intOf]; omega
          · by_cases hk3 : o.kind = 3
            · rw [hk3] at q0
              have HBx : Hid (Blk (wr.alloc (.cells #[.int .i64 3, .int .i64 o.at_, .int .i64 o.many, .slice o.B o.nB o.cB, .slice o.K o.nK o.cK] 34)) wr.heap.size 34 [.int .i64 3, .int .i64 o.at_, .int .i64 o.many, .slice o.B o.nB o.cB, .slice o.K o.nK o.cK]) := Blk.new wr 34 [.int .i64 3, .int .i64 o.at_, .int .i64 o.many, .slice o.B o.nB o.cB, .slice o.K o.nK o.cK]
              have hw := does_sync (wr.alloc (.cells #[.int .i64 3, .int .i64 o.at_, .int .i64 o.many, .slice o.B o.nB o.cB, .slice o.K o.nK o.cK] 34)) (fun j => (w.heap.size ≤ j ∧ j ≠ g) ∧ j ≠ wr.heap.size) (fun j hj => by simp at hj; exact ⟨⟨by omega, by omega⟩, by omega⟩) p d ((HH.out.below.alloc _).mono fun j _ hj => ⟨hj.1, by omega⟩) (by have := HD.out.2.2.1; omega) (by have := HD.out.2.2.2.1; omega) o
              rw [sync_facts HD.out.1 HD.out.2.1] at hw
              have HW := Lib.hid hw
              clear hw hk2 hk3
              go_wp2_with (first | (go_at_call 16; refine HW.out.mono ?_; rintro e w3 ⟨rfl, H3⟩; have k0 : w3.cell? ⟨wr.heap.size, 0, none⟩ = some (.int .i64 3) := (H3.out.2.cell (p := ⟨wr.heap.size, 0, none⟩) (by simp)).trans (HBx.out.cell 0)) | (go_at_call 11; refine (Image_c w3 _ p _ H3.out.1).mono ?_; rintro e w4 ⟨rfl, hb4, ho4⟩; have H4 := Lib.hid (And.intro hb4 ho4); clear hb4 ho4))
              have HN : Hid (KRel w p (k + 1) (.slice (some ⟨w3.heap.size, 0, none⟩) (d.n * 64) (d.n * 64)) w4) := by
                obtain ⟨e1, e2, e3, e4, e5⟩ := HD.out
                have hs3 := H3.out.2.size
                have hs3' : wr.heap.size + 1 ≤ w3.heap.size := by simpa using hs3
                refine ⟨{ d with ops := d.ops + 1, dur := d.see, row := [] }, w3.heap.size, rfl, by omega, ?_, H4.out.1, e1, e2, by show d.ops + 1 ≤ k + 1; omega, by simp, e5, ?_⟩
                · exact (H3.out.1.below.keep H4.out.2 (fun j hj _ => by simp; omega)).mono fun j _ hj => ⟨hj.1.1.1, by omega⟩
                · exact ((HO.out.alloc (fun _ h => h) _).trans (H3.out.2.mono fun j hj => hj.1.1)).trans (H4.out.2.mono fun j (hj : w3.heap.size ≤ j) => by show w.heap.size ≤ j; omega)
              go_roundw
              case rel => exact ⟨k + 1, by omega, by go_num, HN.out⟩
              case measure => simp [intOf]; omega
            · have t2 : (o.kind != 2) = true := by simpa using hk2
              have t3 : (o.kind != 3) = true := by simpa using hk3
              have HN : Hid (KRel w p (k + 1) (.slice (some ⟨g, 0, none⟩) (d.n * 64) (d.n * 64)) (wr.alloc (.cells o.cells.toArray 34))) := by
                obtain ⟨e1, e2, e3, e4, e5⟩ := HD.out
                exact ⟨d, g, rfl, HG.out, HH.out.alloc _, HB.out.alloc _, e1, e2, by omega, by omega, e5, HO.out.alloc (fun _ h => h) _⟩
              clear hk2 hk3
              go_wp2
              go_roundw
              case rel => exact ⟨k + 1, by omega, by go_num, HN.out⟩
              case measure => simp [intOf]; omega
        · have hkm : ¬ (k : Int) < (n1 : Int) := by omega
          have hrl : d.row.length ≤ 4294967296 := by have := HD.out.2.2.2.1; omega
          clear hk hlt
          go_wp2_with fail
          refine (Copy_c wr _ p d HH.out hrl).mono ?_
          rintro e x1 ⟨rfl, hh1, ho1⟩
          have C1 := Lib.hid (And.intro hh1 ho1)
          have hx1 := hh1.2
          clear hh1 ho1 hx1
          have P1 : Hid (Holds x1 (fun j => w.heap.size ≤ j ∧ j ≠ g ∧ j < wr.heap.size) p d) := (HH.out.below.keep C1.out.2 (fun j hj _ => by simp; omega)).mono fun j _ hj => ⟨hj.1.1, hj.1.2, hj.2⟩
          go_wp2_with fail
          refine (Copy_c x1 _ p d P1.out hrl).mono ?_
          rintro e x2 ⟨rfl, hh2, ho2⟩
          have C2 := Lib.hid (And.intro hh2 ho2)
          clear hh2 ho2
          have hs1 : wr.heap.size ≤ x1.heap.size := C1.out.2.size
          have hs2 : x1.heap.size ≤ x2.heap.size := C2.out.2.size
          have hpa : wr.heap.size < x1.heap.size := by
            obtain ⟨_, Ad, As, Ar, cd, cs, cr, hd, _⟩ := C1.out.1
            exact hd.blk.lt
          have hpb : x1.heap.size < x2.heap.size := by
            obtain ⟨_, Ad, As, Ar, cd, cs, cr, hd, _⟩ := C2.out.1
            exact hd.blk.lt
          have P2 : Hid (Holds x2 (fun j => w.heap.size ≤ j ∧ j ≠ g ∧ j < wr.heap.size) p d) := P1.out.keep C2.out.2 (fun j hj _ => by simp; omega)
          have A2 : Hid (Holds x2 (fun j => wr.heap.size ≤ j ∧ j < x1.heap.size) wr.heap.size d) := C1.out.1.below.keep C2.out.2 (fun j hj _ => by simp; omega)
          have B2 : Hid (Holds x2 (fun j => x1.heap.size ≤ j ∧ j < x2.heap.size) x1.heap.size d) := C2.out.1.below
          have G2 : Hid (Blk x2 g 5 (cb d.dur)) := (HB.out.only C1.out.2 (by omega)).only C2.out.2 (by omega)
          have O2 : Hid (Only (w.heap.size ≤ ·) w x2) := (HO.out.trans (C1.out.2.mono fun j (hj : wr.heap.size ≤ j) => by show w.heap.size ≤ j; omega)).trans (C2.out.2.mono fun j (hj : x1.heap.size ≤ j) => by show w.heap.size ≤ j; omega)
          go_wp2_with (go_at_call 11; refine (Image_c x2 _ p _ P2.out).mono ?_; rintro e x3 ⟨rfl, hb, ho⟩; have C3 := Lib.hid (And.intro hb ho); clear hb ho)
          have hs3 : x2.heap.size < x3.heap.size := C3.out.1.lt
          have hgw : g < wr.heap.size := hglt
          have P3 : Hid (Holds x3 (fun j => w.heap.size ≤ j ∧ j ≠ g ∧ j < wr.heap.size) p d) := P2.out.keep C3.out.2 (fun j _ hj => by simp; omega)
          have A3 : Hid (Holds x3 (fun j => wr.heap.size ≤ j ∧ j < x1.heap.size) wr.heap.size d) := A2.out.keep C3.out.2 (fun j _ hj => by simp; omega)
          have B3 : Hid (Holds x3 (fun j => x1.heap.size ≤ j ∧ j < x2.heap.size) x1.heap.size d) := B2.out.keep C3.out.2 (fun j _ hj => by simp; omega)
          have G3 : Hid (Blk x3 g 5 (cb d.dur)) := G2.out.only C3.out.2 (by simp; omega)
          have O3 : Hid (Only (w.heap.size ≤ ·) w x3) := O2.out.trans (C3.out.2.mono fun j (hj : x2.heap.size ≤ j) => by show w.heap.size ≤ j; omega)
          have HS3 : Hid (SrcB (x3.alloc (.cells #[Value.bool true] 4)) (fun j => (wr.heap.size ≤ j ∧ j < x1.heap.size) ∨ x3.heap.size + 1 ≤ j) (some ⟨x3.heap.size, 0, none⟩) [true]) := by
            intro _
            refine ⟨_, rfl, by simp; omega, fun j b hb => ?_⟩
            rw [Addr.add_mid, (Blk.new x3 4 [Value.bool true]).cell, Nat.zero_add]
            match j, hb with
            | 0, hb => cases hb; rfl
          refine (Crash_c _ (fun j => (wr.heap.size ≤ j ∧ j < x1.heap.size) ∨ x3.heap.size + 1 ≤ j) (fun j hj => by simp at hj; exact .inr hj) wr.heap.size d ((A3.out.alloc _).mono fun j _ hj => .inl hj) hrl (some ⟨x3.heap.size, 0, none⟩) 1 1 [true] rfl HS3.out (by omega)).mono ?_
          rintro e x4 ⟨rfl, hh4, ho4⟩
          have C4 := Lib.hid (And.intro hh4 ho4)
          clear hh4 ho4
          have hs4 : x3.heap.size + 1 ≤ x4.heap.size := by have := C4.out.2.size; simpa using this
          have P4 : Hid (Holds x4 (fun j => w.heap.size ≤ j ∧ j ≠ g ∧ j < wr.heap.size) p d) := (P3.out.alloc _).keep C4.out.2 (fun j hj _ => by omega)
          have B4 : Hid (Holds x4 (fun j => x1.heap.size ≤ j ∧ j < x2.heap.size) x1.heap.size d) := (B3.out.alloc _).keep C4.out.2 (fun j hj _ => by omega)
          have G4 : Hid (Blk x4 g 5 (cb d.dur)) := (G3.out.alloc _).only C4.out.2 (by omega)
          have S4 : Hid (Blk x4 x2.heap.size 5 (cb d.see)) := (C3.out.1.alloc _).only C4.out.2 (by omega)
          have O4 : Hid (Only (w.heap.size ≤ ·) w x4) := (O3.out.alloc (fun _ h => h) _).trans (C4.out.2.mono fun j hj => by show w.heap.size ≤ j; omega)
          go_wp2_with fail
          refine (Crash_c x4 (fun j => (x1.heap.size ≤ j ∧ j < x2.heap.size) ∨ x4.heap.size ≤ j) (fun j hj => .inr hj) x1.heap.size d (B4.out.mono fun j _ hj => .inl hj) hrl none 0 0 [] rfl (fun h => absurd h (by decide)) (by omega)).mono ?_
          rintro e x5 ⟨rfl, hh5, ho5⟩
          have C5 := Lib.hid (And.intro hh5 ho5)
          clear hh5 ho5
          have hs5 : x4.heap.size ≤ x5.heap.size := C5.out.2.size
          have P5 : Hid (Holds x5 (fun j => w.heap.size ≤ j ∧ j ≠ g ∧ j < wr.heap.size) p d) := P4.out.keep C5.out.2 (fun j hj _ => by omega)
          have A5 : Hid (Holds x5 (fun _ => True) wr.heap.size (d.crash [true])) := (C4.out.1.below.keep C5.out.2 (fun j hj _ => by omega)).mono fun _ _ _ => trivial
          have B5 : Hid (Holds x5 (fun _ => True) x1.heap.size (d.crash [])) := C5.out.1.mono fun _ _ _ => trivial
          have G5 : Hid (Blk x5 g 5 (cb d.dur)) := G4.out.only C5.out.2 (by omega)
          have S5 : Hid (Blk x5 x2.heap.size 5 (cb d.see)) := S4.out.only C5.out.2 (by omega)
          have O5 : Hid (Only (w.heap.size ≤ ·) w x5) := O4.out.trans (C5.out.2.mono fun j hj => by show w.heap.size ≤ j; omega)
          have Hw : Hid d.WF := HH.out.1
          go_wp2_with fail
          refine (alive_c x5).mono ?_
          rintro e x6 ⟨rfl, ho6⟩
          have K6 : Hid (After x5 x6 (x2.heap.size + 1)) := ⟨ho6, by omega⟩
          clear ho6
          go_wp2_with fail
          refine (Image_c x6 _ _ _ (K6.out.holds A5.out)).mono ?_
          rintro e x7 ⟨rfl, hb7, ho7⟩
          have I7 := Lib.hid hb7
          have K7 : Hid (After x5 x7 (x2.heap.size + 1)) := K6.out.next ho7
          clear hb7 ho7
          have hl1 : Hid ((d.crash [true]).see.length = (d.crash [true]).n * 64 ∧ d.see.length = d.n * 64 ∧ (d.crash []).see.length = (d.crash []).n * 64 ∧ d.dur.length = d.n * 64) := by
            have hw := Hw.out
            refine ⟨?_, hw.see, ?_, hw.len⟩
            · rw [crash_all]; exact hw.see
            · rw [crash_none]; exact hw.len
          go_wp2_with fail
          refine (says (Equal_c x7 _ _ _ _ _ _ _ _ (txt_of I7.out hl1.out.1) (txt_of (K7.out.blk S5.out) hl1.out.2.1)) (b := .bool true) (by simp [crash_all])).mono ?_
          rintro e x8 ⟨rfl, rfl⟩
          go_wp2_with fail
          refine (Image_c x7 _ _ _ (K7.out.holds B5.out)).mono ?_
          rintro e x9 ⟨rfl, hb9, ho9⟩
          have I9 := Lib.hid hb9
          have K9 : Hid (After x5 x9 (x2.heap.size + 1)) := K7.out.next ho9
          clear hb9 ho9
          go_wp2_with fail
          refine (says (Equal_c x9 _ _ _ _ _ _ _ _ (txt_of I9.out hl1.out.2.2.1) (txt_of (K9.out.blk G5.out) hl1.out.2.2.2)) (b := .bool true) (by simp [crash_none])).mono ?_
          rintro e x8 ⟨rfl, rfl⟩
          go_wp2_with fail
          refine (says (Pending_c x9 _ _ _ (K9.out.holds A5.out)) (b := .int .i64 0) rfl).mono ?_
          rintro e x8 ⟨rfl, rfl⟩
          go_wp2_with fail
          refine (Image_c x9 _ _ _ (K9.out.holds P5.out)).mono ?_
          rintro e x10 ⟨rfl, hb10, ho10⟩
          have I10 := Lib.hid hb10
          have K10 : Hid (After x5 x10 (x2.heap.size + 1)) := K9.out.next ho10
          clear hb10 ho10
          go_wp2_with fail
          refine (says (Equal_c x10 _ _ _ _ _ _ _ _ (txt_of I10.out hl1.out.2.1) (txt_of (K10.out.blk S5.out) hl1.out.2.1)) (b := .bool true) (by simp)).mono ?_
          rintro e x8 ⟨rfl, rfl⟩
          go_wp2_with fail
          go_ret
          have hsz5 := O5.out.size
          exact ⟨rfl, O5.out.trans (K10.out.1.mono fun j (hj : x5.heap.size ≤ j) => by show w.heap.size ≤ j; omega)⟩
end Go.Proofs.Ytelgeddheheokaa
