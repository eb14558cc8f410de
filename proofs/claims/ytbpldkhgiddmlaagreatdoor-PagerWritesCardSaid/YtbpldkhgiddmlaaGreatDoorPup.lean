/-
  The document's Run: calls, until one tells an error.
-/
import Derived.Test.YtbpldkhgiddmlaaGreatDoorPuo
set_option linter.unusedVariables false
namespace Go.Proofs.YtbpldkhgiddmlaaGreatDoor
open Go.RowKit

theorem ko_at {F : Nat → Prop} {w : World} {A : Option Addr} {n c k : Nat} {l : List Kop} (h : SRw koE F w (.slice A n c) l) (hk : k < n) : ∃ (b off : Nat) (x : Kop) (P : Option Addr) (cp : Nat), A = some ⟨b, off, none⟩ ∧ l[k]? = some x ∧ (x.1 = 2 ∨ (P = none ∧ cp = 0)) ∧
    Stab F w (fun W => (W.cell? ⟨b, off + k * 5, none⟩ = some (.int .i64 x.1) ∧ W.cell? ⟨b, off + k * 5 + 1, none⟩ = some (.int .i64 x.2.1) ∧ W.cell? ⟨b, off + k * 5 + 2, none⟩ = some (.int .i64 0) ∧ W.cell? ⟨b, off + k * 5 + 3, none⟩ = some (.slice P x.2.2.length cp) ∧ W.cell? ⟨b, off + k * 5 + 4, none⟩ = some (.slice none 0 0)) ∧ Src W (.slice P x.2.2.length cp) x.2.2) := by
  obtain rfl := h.len
  obtain ⟨C, hC⟩ := h
  have hx : l[k]? = some l[k] := List.getElem?_eq_getElem hk
  have h0 := hC.now
  obtain ⟨cs, ⟨P, cp, rfl, hs, hnl⟩, hg⟩ := Den.get (fun _ _ => koE.len) h0.1 hx
  have hl : C.length = l.length * 5 := Den.length (fun _ _ => koE.len) h0.1
  obtain ⟨A0, c0, e0, hl0, hr0, _⟩ := h0.2
  simp only [Value.slice.injEq] at e0
  obtain ⟨e1, _, _⟩ := e0
  subst e1
  obtain ⟨b, off, e, hb, hc⟩ := hr0 (by rw [hl]; omega)
  refine ⟨b, off, l[k], P, cp, e, hx, hnl, fun W hW => ?_⟩
  obtain ⟨hd, A1, c1, e1, hl1, hr1, _⟩ := hC W hW
  simp only [Value.slice.injEq] at e1
  obtain ⟨e2, _, _⟩ := e1
  subst e2
  obtain ⟨b', off', e', hb', hc'⟩ := hr1 (by rw [hl]; omega)
  rw [e] at e'
  cases e'
  obtain ⟨cs', ⟨P', cp', rfl, hs', _⟩, hg'⟩ := Den.get (fun _ _ => koE.len) hd hx
  have k1 := hg 3 _ rfl
  have k2 := hg' 3 _ rfl
  rw [k1] at k2
  simp only [Option.some.injEq, Value.slice.injEq] at k2
  obtain ⟨k3, _, k4⟩ := k2
  subst k3 k4
  exact ⟨⟨hc' _ _ (hg' 0 _ rfl), hc' _ _ (hg' 1 _ rfl), hc' _ _ (hg' 2 _ rfl), hc' _ _ k1, hc' _ _ (hg' 4 _ rfl)⟩, hs'⟩
/-- There is room for what is to be run. -/
def costK (l : List Kop) : Nat := (l.map fun o => o.2.2.length + 1).sum
def RoomK (d : Dk.Dsk) (l : List Kop) : Prop := d.ops + costK l ≤ 1000000 ∧ d.row.length + costK l ≤ 100000
theorem RoomK.op {d : Dk.Dsk} {o : Kop} {l : List Kop} (h : RoomK d (o :: l)) : RoomK (doK d o).1 l := by
  have e : costK (o :: l) = o.2.2.length + 1 + costK l := rfl
  obtain ⟨h1, h2⟩ := h
  rw [e] at h1 h2
  unfold doK
  split
  · have h3 := (Roomy.grow (d := d) (a := o.2.1) (n := 0) ⟨by omega, by omega⟩)
    unfold Dk.Dsk.grow
    split
    · exact ⟨by dsimp only; omega, by dsimp only; omega⟩
    · split
      · exact ⟨by dsimp only; omega, by dsimp only; omega⟩
      · exact ⟨by dsimp only; omega, by dsimp only; omega⟩
  · split
    · unfold Dk.Dsk.write
      split
      · exact ⟨by dsimp only; omega, by dsimp only; omega⟩
      · split
        · exact ⟨by dsimp only; omega, by dsimp only; omega⟩
        · split
          · exact ⟨by dsimp only; omega, by dsimp only; omega⟩
          · obtain ⟨k1, k2⟩ := op_small { d with row := d.row ++ Dk.chunks o.2.1.toNat o.2.2 (o.2.2.length / 64) }
            refine ⟨Nat.le_trans (Nat.add_le_add_right k1 _) (by show d.ops + 1 + costK l ≤ _; omega), ?_⟩
            rw [k2]
            simp only [List.length_append, Dk.chunks_length]
            omega
    · obtain ⟨k1, k2⟩ := op_small d
      unfold Dk.Dsk.sync
      split
      · exact ⟨by dsimp only; omega, by dsimp only; omega⟩
      · split
        · exact ⟨by omega, by rw [k2]; omega⟩
        · exact ⟨Nat.le_trans (Nat.add_le_add_right k1 _) (by omega), by simp only [List.length_nil]; omega⟩
theorem dropK_cons {l : List Kop} {k : Nat} {o : Kop} (h : l[k]? = some o) : l.drop k = o :: l.drop (k + 1) := dropW_cons h
def GaveDo5 (D : Nat → Prop) (w : World) (d : Dk.Dsk) (y : Int) (e : Ending) (w' : World) : Prop := ∃ (L' : Int) (BA' : Option Addr) (bn' bc' : Nat) (RA' : Option Addr) (rn' rc' : Nat) (op' fu' : Int) (dn' : Bool), e = .returned (.tuple #[.agg #[.int .i64 L', .slice BA' bn' bc', .slice RA' rn' rc', .int .i64 op', .int .i64 fu', .bool dn'], .slice none 0 0, .int .i64 y]) ∧ KAt D w' (.agg #[.int .i64 L', .slice BA' bn' bc', .slice RA' rn' rc', .int .i64 op', .int .i64 fu', .bool dn']) d ∧ Only (w.heap.size ≤ ·) w w'
theorem do5_of {D : Nat → Prop} {w : World} {d : Dk.Dsk} {y : Int} {P : Program} {f : Nat} {a : Array Value} (h : Calls P f a w (GaveK2 D w (d, y))) : Calls P f a w (GaveDo5 D w d y) := by
  refine h.mono ?_
  rintro e w' ⟨v, rfl, hk, ho⟩
  obtain ⟨h0, BA, bc, RA, rc, rfl, h2, h3⟩ := hk
  exact ⟨_, _, _, _, _, _, _, _, _, _, rfl, ⟨h0, BA, bc, RA, rc, rfl, h2, h3⟩, ho⟩
theorem nil_len {w : World} {n c : Nat} {xs : Bytes} (h : Src w (.slice none n c) xs) : n = 0 := by
  obtain ⟨A, c', e, ht, hA, hl, hm⟩ := h
  simp only [Value.slice.injEq] at e
  obtain ⟨rfl, rfl, rfl⟩ := e
  have := hA rfl
  omega
def GaveRun (D : Nat → Prop) (w : World) (s : Dk.Dsk × Int) (e : Ending) (w' : World) : Prop := ∃ v, e = .returned (.tuple #[v, .int .i64 s.2]) ∧ KAt D w' v s.1 ∧ Only (w.heap.size ≤ ·) w w'
set_option maxRecDepth 100000 in
set_option maxHeartbeats 25600000 in
theorem kRun_c (D : Nat → Prop) (w : World) (hD : ∀ k, D k → k < w.heap.size) (v : Value) (d : Dk.Dsk) (h : KAt D w v d) (hd : d.down = false) (A : Option Addr) (n c : Nat) (l : List Kop) (hr : SRw koE D w (.slice A n c) l) (hok : ∀ o ∈ l, OkO o) (hroom : RoomK d l) (hn : n ≤ 1000) : Calls Tryz.prog 16 #[v, .slice A n c] w (GaveRun D w (runK d l)) := by
  obtain ⟨h0, BA0, bc0, RA0, rc0, rfl, h2, h3⟩ := h
  obtain ⟨L0, hL0⟩ : ∃ z : Int, z = (d.limit : Nat) := ⟨_, rfl⟩
  obtain ⟨op0, hop0⟩ : ∃ z : Int, z = (d.ops : Nat) := ⟨_, rfl⟩
  obtain ⟨fu0, hfu0⟩ : ∃ z, z = kfu d := ⟨_, rfl⟩
  obtain ⟨bn0, hbn0⟩ : ∃ z, z = d.dur.length := ⟨_, rfl⟩
  obtain ⟨rn0, hrn0⟩ : ∃ z, z = d.row.length := ⟨_, rfl⟩
  obtain ⟨dn0, hdn0⟩ : ∃ z, z = d.down := ⟨_, rfl⟩
  have HK0 : Hid (KAt D w (.agg #[.int .i64 L0, .slice BA0 bn0 bc0, .slice RA0 rn0 rc0, .int .i64 op0, .int .i64 fu0, .bool dn0]) d) := Lib.hid ⟨h0, BA0, bc0, RA0, rc0, by rw [hL0, hop0, hfu0, hbn0, hrn0, hdn0], h2, h3⟩
  rw [← hL0, ← hop0, ← hfu0, ← hbn0, ← hrn0, ← hdn0]
  obtain ⟨w1, hw1⟩ : ∃ W0, W0 = (w.alloc (.cells #[.int .i64 L0, .slice BA0 bn0 bc0, .slice RA0 rn0 rc0, .int .i64 op0, .int .i64 fu0, .bool dn0] 34)).alloc (.cells #[.int .i64 0, .slice none 0 0, .slice none 0 0, .int .i64 0, .int .i64 0, .bool false] 34) := ⟨_, rfl⟩
  have HO1 : Hid (Only (w.heap.size ≤ ·) w w1) := Lib.hid (by rw [hw1]; exact ((Only.refl _ w).alloc (fun _ h => h) _).alloc (fun _ h => h) _)
  have HB2 : Hid (Blk w1 w.heap.size 34 [.int .i64 L0, .slice BA0 bn0 bc0, .slice RA0 rn0 rc0, .int .i64 op0, .int .i64 fu0, .bool dn0]) := Lib.hid (by rw [hw1]; exact (Blk.new w 34 [.int .i64 L0, .slice BA0 bn0 bc0, .slice RA0 rn0 rc0, .int .i64 op0, .int .i64 fu0, .bool dn0]).alloc _)
  have HB4 : Hid (Blk w1 (w.heap.size + 1) 34 [.int .i64 0, .slice none 0 0, .slice none 0 0, .int .i64 0, .int .i64 0, .bool false]) := Lib.hid (by
    have h := Blk.new (w.alloc (.cells #[.int .i64 L0, .slice BA0 bn0 bc0, .slice RA0 rn0 rc0, .int .i64 op0, .int .i64 fu0, .bool dn0] 34)) 34 [.int .i64 0, .slice none 0 0, .slice none 0 0, .int .i64 0, .int .i64 0, .bool false]
    rw [← hw1] at h
    simpa using h)
  have HE1 := Lib.hid hw1
  have HR := Lib.hid hr
  have HOK := Lib.hid hok
  have HRM := Lib.hid hroom
  have H0 := Lib.hid hD
  have HDN := Lib.hid hd
  have HLN := Lib.hid hr.len
  clear hD h0 h2 h3 hd hr hok hroom hL0 hop0 hfu0 hbn0 hrn0 hdn0 hw1
  go_enter Tryz.func16, Tryz.ntmps16
  go_upto_region 1 with (fail)
  rw [← HE1.out]
  clear HE1
  generalize hq4 : w.heap.size + 1 = b4 at HB4 ⊢
  have HQN : Hid (w.heap.size < b4 ∧ b4 < w1.heap.size) := Lib.hid ⟨by omega, HB4.out.lt⟩
  clear hq4
  generalize hq2 : w.heap.size = b2 at HB2 ⊢
  have HQ2 : Hid (w.heap.size = b2) := Lib.hid hq2
  clear hq2
  go_wp2
  go_loopg [6] n (fun gk i wr => ∃ (k : Nat) (dj : Dk.Dsk) (L : Int) (BA : Option Addr) (bn bc : Nat) (RA : Option Addr) (rn rc : Nat) (op fu : Int) (dn : Bool), gk = n - k ∧ k ≤ n ∧ i = .int .i64 (k : Nat) ∧ Hid (Blk wr b2 34 [.int .i64 L, .slice BA bn bc, .slice RA rn rc, .int .i64 op, .int .i64 fu, .bool dn]) ∧ Hid (Blk wr b4 34 [.int .i64 0, .slice none 0 0, .slice none 0 0, .int .i64 0, .int .i64 0, .bool false]) ∧ Hid (KAt (fun j => D j ∨ j = b2 ∨ j = b4) wr (.agg #[.int .i64 L, .slice BA bn bc, .slice RA rn rc, .int .i64 op, .int .i64 fu, .bool dn]) dj) ∧ Hid (dj.down = false ∧ RoomK dj (l.drop k) ∧ runK d l = runK dj (l.drop k)) ∧ Hid (Only (w.heap.size ≤ ·) w wr))
  case atStart =>
    refine ⟨0, d, L0, BA0, bn0, bc0, RA0, rn0, rc0, op0, fu0, dn0, rfl, Nat.zero_le _, rfl, HB2, HB4, Lib.hid (HK0.out.step (HO1.out.mono fun _ h => .inr h) (fun j hj => ?_)), Lib.hid ⟨HDN.out, HRM.out, rfl⟩, HO1⟩
    have h1 := HQN.out
    have h2 := HQ2.out
    rcases hj with hj | hj | hj
    · exact .inl hj
    · exact .inr (by omega)
    · exact .inr (by omega)
  case round =>
    obtain ⟨k, dj, L, BA, bn, bc, RA, rn, rc, op, fu, dn, rfl, hk, rfl, HB2, HB4, HK, HJ, HO⟩ := hrel
    by_cases hlt : k < n
    · obtain ⟨ob, of, x, P, pc, rfl, hx, hnl, hst⟩ := ko_at HR.out hlt
      obtain ⟨d', y, hdo⟩ : ∃ d' y, doK dj x = (d', y) := ⟨_, _, rfl⟩
      obtain ⟨ox, hox⟩ : ∃ z, z = x.1 := ⟨_, rfl⟩
      obtain ⟨oa, hoa⟩ : ∃ z, z = x.2.1 := ⟨_, rfl⟩
      obtain ⟨pn, hpn⟩ : ∃ z, z = x.2.2.length := ⟨_, rfl⟩
      rw [← hox, ← hoa, ← hpn] at hst
      have HST : Hid (∀ W, Only (fun j => (D j ∨ j = b2 ∨ j = b4) ∨ wr.heap.size ≤ j) wr W → Only (fun j => D j ∨ w.heap.size ≤ j) w W) := Lib.hid (fun W hW => (HO.out.mono fun _ h => .inr h).trans (hW.mono fun j hj => by
        have h1 := HQN.out
        have h2 := HQ2.out
        have h3 := HO.out.size
        rcases hj with (hj | hj | hj) | hj
        · exact .inl hj
        · exact .inr (by omega)
        · exact .inr (by omega)
        · exact .inr (by omega)))
      have KP : Hid (∀ W : World, Only (wr.heap.size ≤ ·) wr W → (fun W : World => (W.cell? ⟨b2, 0, none⟩ = some (.int .i64 L) ∧ W.cell? ⟨b2, 1, none⟩ = some (.slice BA bn bc) ∧ W.cell? ⟨b2, 2, none⟩ = some (.slice RA rn rc) ∧ W.cell? ⟨b2, 3, none⟩ = some (.int .i64 op) ∧ W.cell? ⟨b2, 4, none⟩ = some (.int .i64 fu) ∧ W.cell? ⟨b2, 5, none⟩ = some (.bool dn)) ∧ W.cell? ⟨ob, of + k * 5, none⟩ = some (.int .i64 ox) ∧ W.cell? ⟨ob, of + k * 5 + 1, none⟩ = some (.int .i64 oa) ∧ W.cell? ⟨ob, of + k * 5 + 2, none⟩ = some (.int .i64 0) ∧ W.cell? ⟨ob, of + k * 5 + 3, none⟩ = some (.slice P pn pc) ∧ W.cell? ⟨ob, of + k * 5 + 4, none⟩ = some (.slice none 0 0)) W) := Lib.hid (fun W hW => ⟨blk_six (HB2.out.only hW (Nat.not_le.2 HB2.out.lt)), (hst W (HST.out W (hW.mono fun _ h => .inr h))).1⟩)
      have hop := HOK.out x (List.mem_of_getElem? hx)
      have hdr : l.drop k = x :: l.drop (k + 1) := dropK_cons hx
      have hrm : RoomK dj (x :: l.drop (k + 1)) := by have h9 := HJ.out.2.1; rwa [hdr] at h9
      have HDO : Hid (∀ W, Only (wr.heap.size ≤ ·) wr W → Calls Tryz.prog 11 #[.agg #[.int .i64 L, .slice BA bn bc, .slice RA rn rc, .int .i64 op, .int .i64 fu, .bool dn], .agg #[.int .i64 ox, .int .i64 oa, .int .i64 0, .slice P pn pc, .slice none 0 0]] W (GaveDo5 (fun j => (D j ∨ j = b2 ∨ j = b4) ∨ (wr.heap.size ≤ j ∧ j < W.heap.size)) W d' y)) := Lib.hid (fun W hW => by
        have e1 : costK (x :: l.drop (k + 1)) = x.2.2.length + 1 + costK (l.drop (k + 1)) := rfl
        have h9 := kdo_any (fun j => (D j ∨ j = b2 ∨ j = b4) ∨ (wr.heap.size ≤ j ∧ j < W.heap.size)) W (fun j hj => hj.elim (fun h => Nat.lt_of_lt_of_le (h.elim (fun h => Nat.lt_of_lt_of_le (H0.out j h) HO.out.size) (fun h => h.elim (fun h => by rw [h]; exact HB2.out.lt) (fun h => by rw [h]; exact HB4.out.lt))) hW.size) (fun h => h.2)) (.agg #[.int .i64 L, .slice BA bn bc, .slice RA rn rc, .int .i64 op, .int .i64 fu, .bool dn]) dj (HK.out.step (hW.mono fun _ h => .inr h) (fun j hj => hj.imp id fun h => h.1)) HJ.out.1 (by have h8 := hrm.1; omega) (by have h8 := hrm.2; omega) x hop P pn pc (fun W2 hW2 => (hst W2 (HST.out W2 ((hW.mono fun _ h => .inr h).trans (hW2.mono fun j hj => hj.elim (fun h => h.imp id fun h => h.1) (fun h => .inr (Nat.le_trans hW.size h)))))).2) (hnl.imp id fun h => ⟨h.1, by
          rw [hpn]
          rcases hop with h7 | h7 | h7
          · rw [h7.2.2]; rfl
          · have h3 := (hst w (Only.refl _ _)).2
            rw [h.1, hpn] at h3
            exact nil_len h3
          · rw [h7.2.2]; rfl, h.2⟩)
        rw [← hox, ← hoa, hdo] at h9
        exact do5_of h9)
      have HX : Hid (l.drop k = x :: l.drop (k + 1) ∧ doK dj x = (d', y) ∧ RoomK d' (l.drop (k + 1)) ∧ (y = 0 → d'.down = false)) := Lib.hid ⟨hdr, hdo, by have h9 := hrm.op; rwa [hdo] at h9, fun hy => by have h9 := doK_up dj x HJ.out.1 (by rw [hdo]; exact hy); rwa [hdo] at h9⟩
      clear hx hnl hst hdo hox hoa hpn hop hdr hrm
      have HOw4 : Hid (Only (wr.heap.size ≤ ·) wr wr.drew) := Lib.hid ((Only.refl _ wr).drew)
      have HSX := Lib.hid (KP.out _ HOw4.out)
      go_upto_region 4 with (fail)
      refine wp_region_list (B := [false, false, false, false, false, false, false, false, false, false, false, false, false, false]) (S := (fun W : World => (W.cell? ⟨b2, 0, none⟩ = some (.int .i64 L) ∧ W.cell? ⟨b2, 1, none⟩ = some (.slice BA bn bc) ∧ W.cell? ⟨b2, 2, none⟩ = some (.slice RA rn rc) ∧ W.cell? ⟨b2, 3, none⟩ = some (.int .i64 op) ∧ W.cell? ⟨b2, 4, none⟩ = some (.int .i64 fu) ∧ W.cell? ⟨b2, 5, none⟩ = some (.bool dn)) ∧ W.cell? ⟨ob, of + k * 5, none⟩ = some (.int .i64 ox) ∧ W.cell? ⟨ob, of + k * 5 + 1, none⟩ = some (.int .i64 oa) ∧ W.cell? ⟨ob, of + k * 5 + 2, none⟩ = some (.int .i64 0) ∧ W.cell? ⟨ob, of + k * 5 + 3, none⟩ = some (.slice P pn pc) ∧ W.cell? ⟨ob, of + k * 5 + 4, none⟩ = some (.slice none 0 0))) (by kernel_rfl) (by kernel_rfl) (by kernel_rfl) HSX.out (fun hsel hHeld => ?_)
      generalize hwz : World.drew _ = w4 at HOw4 HSX hHeld ⊢
      clear hwz
      refine oneA 0 17 hsel (h := ?_)
      simp only [Act.put, lsa, lsz, lss]
      refine oneA 1 18 hsel (h := ?_)
      simp only [Act.put, lsa, lsz, lss]
      refine oneA 2 19 hsel (h := ?_)
      simp only [Act.put, lsa, lsz, lss]
      refine oneA 3 20 hsel (h := ?_)
      simp only [Act.put, lsa, lsz, lss]
      refine oneA 4 21 hsel (h := ?_)
      simp only [Act.put, lsa, lsz, lss]
      refine wpAnyL_ready (rs := [5, 10]) (by kernel_rfl) (by kernel_rfl) (by simp) ?_
      refine AllReadyL.cons (o := ?_) ?_ (fun K hK => ?_) (AllReadyL.cons (o := ?_) ?_ (fun K hK => ?_) AllReadyL.nil)
      case refine_2 => (simp only [List.getElem?_cons_succ, List.getElem?_cons_zero]; rfl)
      case refine_5 => (simp only [List.getElem?_cons_succ, List.getElem?_cons_zero]; rfl)
      case refine_3 =>
        go_simp
        (go_at_call 11; (with_reducible refine (HDO.out _ HOw4.out).mono ?_); rintro e w4x ⟨L', BA', bn', bc', RA', rn', rc', op', fu', dn', rfl, hk, ho⟩; have HKA := Lib.hid hk; have HOw4x : Hid (Only (wr.heap.size ≤ ·) wr w4x) := Lib.hid (on_new HOw4.out ho); clear hk ho)
        go_wp2_with (fail)
        clear hHeld
        refine hK.out _ _ (KP.out _ HOw4x.out) (fun hHeld => ?_)
        clear hK K
        try simp only [Act.put, lsa, lsz, lss]
        refine oneA 6 16 hsel (h := ?_)
        simp only [Act.put, lsa, lsz, lss]
        refine oneA 7 23 hsel (h := ?_)
        simp only [Act.put, lsa, lsz, lss]
        refine oneA 8 24 hsel (h := ?_)
        simp only [Act.put, lsa, lsz, lss]
        refine oneA 9 25 hsel (h := ?_)
        simp only [Act.put, lsa, lsz, lss]
        refine wpAnyL_ready (rs := [10]) (by kernel_rfl) (by kernel_rfl) (by simp) ?_
        refine AllReadyL.cons (o := ?_) ?_ (fun K hK => ?_) AllReadyL.nil
        case refine_2 => (simp only [List.getElem?_cons_succ, List.getElem?_cons_zero]; rfl)
        go_simp
        have HOw4xx : Hid (Only (wr.heap.size ≤ ·) wr (w4x.alloc (.cells #[.int .i64 0, .slice none 0 0, .slice none 0 0, .int .i64 0, .int .i64 0, .bool false] 34))) := Lib.hid (HOw4x.out.alloc (fun _ h => h) _)
        have HB7 : Hid (Blk (w4x.alloc (.cells #[.int .i64 0, .slice none 0 0, .slice none 0 0, .int .i64 0, .int .i64 0, .bool false] 34)) w4x.heap.size 34 [.int .i64 0, .slice none 0 0, .slice none 0 0, .int .i64 0, .int .i64 0, .bool false]) := Lib.hid (Blk.new w4x _ _)
        have HG7 : Hid (wr.heap.size ≤ w4x.heap.size) := Lib.hid HOw4x.out.size
        replace HKA := Lib.hid (HKA.out.step (D' := (fun j => (D j ∨ j = b2 ∨ j = b4) ∨ j = w4x.heap.size)) ((Only.refl _ _).alloc (fun _ h => .inr h) (.cells #[.int .i64 0, .slice none 0 0, .slice none 0 0, .int .i64 0, .int .i64 0, .bool false] 34)) (fun j hj => hj.elim (fun h => .inl (.inl h)) (fun h => .inr (Nat.le_of_eq h.symm))))
        clear hHeld
        refine hK.out _ _ (KP.out _ HOw4xx.out) (fun hHeld => ?_)
        clear hK K
        try simp only [Act.put, lsa, lsz, lss]
        generalize hwz : (w4x.alloc (.cells #[.int .i64 0, .slice none 0 0, .slice none 0 0, .int .i64 0, .int .i64 0, .bool false] 34)) = w4xx at HOw4xx HB7 HKA hHeld ⊢
        clear hwz
        generalize hbz : w4x.heap.size = b7 at HB7 HG7 HKA ⊢
        clear hbz
        refine wpAnyL_ready (rs := [11]) (by kernel_rfl) (by kernel_rfl) (by simp) ?_
        refine AllReadyL.cons (o := ?_) ?_ (fun K hK => ?_) AllReadyL.nil
        case refine_2 => (simp only [List.getElem?_cons_succ, List.getElem?_cons_zero]; rfl)
        obtain ⟨r0, r1, r2, r3, r4, r5⟩ := blk_six HB7.out
        have f0 := HB7.out.frozen 0
        have f1 := HB7.out.frozen 1
        have f2 := HB7.out.frozen 2
        have f3 := HB7.out.frozen 3
        have f4 := HB7.out.frozen 4
        have f5 := HB7.out.frozen 5
        go_simp
        clear r0 r1 r2 r3 r4 r5 f0 f1 f2 f3 f4 f5
        have hk := kd_set (a' := .int .i64 L') (b' := .slice BA' bn' bc') (c' := .slice RA' rn' rc') (d' := .int .i64 op') (e' := .int .i64 fu') (f' := .bool dn') HB7.out
        generalize hw7 : (((((w4xx.setCell ⟨b7, 0, none⟩ (.int .i64 L')).setCell ⟨b7, 1, none⟩ (.slice BA' bn' bc')).setCell ⟨b7, 2, none⟩ (.slice RA' rn' rc')).setCell ⟨b7, 3, none⟩ (.int .i64 op')).setCell ⟨b7, 4, none⟩ (.int .i64 fu')).setCell ⟨b7, 5, none⟩ (.bool dn') = w4xxx at hk ⊢
        clear hw7
        replace HB7 := Lib.hid hk.1
        have HS7 : Hid (Only (· = b7) w4xx w4xxx) := Lib.hid hk.2
        clear hk
        replace HKA := Lib.hid (HKA.out.step (D' := (fun j => (D j ∨ j = b2 ∨ j = b4) ∨ j = b7)) (HS7.out.mono fun j hj => .inl (.inr hj)) (fun _ h => .inl h))
        have HOw4xxx : Hid (Only (wr.heap.size ≤ ·) wr w4xxx) := Lib.hid (HOw4xx.out.trans (HS7.out.mono fun j hj => by rw [show j = b7 from hj]; exact HG7.out))
        clear hHeld
        refine hK.out _ _ (KP.out _ HOw4xxx.out) (fun hHeld => ?_)
        clear hK K
        try simp only [Act.put, lsa, lsz, lss]
        refine oneA 12 8 hsel (h := ?_)
        simp only [Act.put, lsa, lsz, lss]
        refine oneA 13 9 hsel (h := ?_)
        simp only [Act.put, lsa, lsz, lss]
        refine wpAnyL_done (by kernel_rfl) (by kernel_rfl) ?_ _
        clear hsel hHeld
        clear HSX HDO KP HST
        have HB2w := Lib.hid (HB2.out.only HOw4xxx.out (Nat.not_le.2 HB2.out.lt))
        have HB4w := Lib.hid (HB4.out.only HOw4xxx.out (Nat.not_le.2 HB4.out.lt))
        have HLT := Lib.hid (And.intro HB2.out.lt (And.intro HB4.out.lt HQN.out))
        have HG2 := Lib.hid HG7.out
        have HXW := Lib.hid (on_new HO.out HOw4xxx.out)
        clear HB2 HB4
        obtain ⟨r0, r1, r2, r3, r4, r5⟩ := blk_six HB7.out
        obtain ⟨i0, i1, i2, i3, i4, i5⟩ := blk_six HB2w.out
        have f0 := HB2w.out.frozen 0
        have f1 := HB2w.out.frozen 1
        have f2 := HB2w.out.frozen 2
        have f3 := HB2w.out.frozen 3
        have f4 := HB2w.out.frozen 4
        have f5 := HB2w.out.frozen 5
        go_upto_region 6 with (fail)
        clear r0 r1 r2 r3 r4 r5 i0 i1 i2 i3 i4 i5 f0 f1 f2 f3 f4 f5
        have hk := kd_set (a' := .int .i64 L') (b' := .slice BA' bn' bc') (c' := .slice RA' rn' rc') (d' := .int .i64 op') (e' := .int .i64 fu') (f' := .bool dn') HB2w.out
        generalize hw7 : (((((w4xxx.setCell ⟨b2, 0, none⟩ (.int .i64 L')).setCell ⟨b2, 1, none⟩ (.slice BA' bn' bc')).setCell ⟨b2, 2, none⟩ (.slice RA' rn' rc')).setCell ⟨b2, 3, none⟩ (.int .i64 op')).setCell ⟨b2, 4, none⟩ (.int .i64 fu')).setCell ⟨b2, 5, none⟩ (.bool dn') = wq at hk ⊢
        clear hw7
        have HB2 := Lib.hid hk.1
        have HS2 : Hid (Only (· = b2) w4xxx wq) := Lib.hid hk.2
        clear hk HB2w HB7
        have HKQ := Lib.hid (HKA.out.step (D' := (fun j => D j ∨ j = b2 ∨ j = b4)) (HS2.out.mono fun j hj => .inl (.inl (.inr (.inl hj)))) (fun _ h => .inl (.inl h)))
        have HB4 := Lib.hid (HB4w.out.only HS2.out (fun e => by have h1 := HQ2.out; have h2 := HQN.out; have h3 : b4 = b2 := e; omega))
        have HXQ : Hid (Only (w.heap.size ≤ ·) w wq) := Lib.hid (HXW.out.trans (HS2.out.mono fun j hj => by have h1 := HQ2.out; have h3 : j = b2 := hj; omega))
        clear HKA HS2 HB4w HG7 HG2 HXW
        by_cases hy : y = 0
        · subst hy
          have hk1 : wrap64 ((k : Int) + 1) = ((k + 1 : Nat) : Int) := by rw [IntWalk.wrap64_in _ (by omega)]; omega
          go_wp2
          go_roundg (n - (k + 1))
          case measure => (clear hk1; omega)
          case rel => exact ⟨k + 1, d', L', BA', bn', bc', RA', rn', rc', op', fu', dn', rfl, hlt, by first | rfl | (rw [← hk1]; rfl) | (rw [hk1]), HB2, HB4, HKQ, Lib.hid ⟨HX.out.2.2.2 (by trivial), HX.out.2.2.1, by rw [HJ.out.2.2, HX.out.1, runK_cons, HX.out.2.1, if_pos rfl]⟩, HXQ⟩
        · obtain ⟨i0, i1, i2, i3, i4, i5⟩ := blk_six HB2.out
          obtain ⟨r0, r1, r2, r3, r4, r5⟩ := blk_six HB4.out
          have f0 := HB4.out.frozen 0
          have f1 := HB4.out.frozen 1
          have f2 := HB4.out.frozen 2
          have f3 := HB4.out.frozen 3
          have f4 := HB4.out.frozen 4
          have f5 := HB4.out.frozen 5
          go_wp2
          have hk := kd_set (a' := .int .i64 L') (b' := .slice BA' bn' bc') (c' := .slice RA' rn' rc') (d' := .int .i64 op') (e' := .int .i64 fu') (f' := .bool dn') HB4.out
          refine bodyPost_ret (k_results_cell_tmp rfl rfl (load_kd hk.1)) rfl ?_
          refine ⟨_, by rw [HJ.out.2.2, HX.out.1, runK_cons, HX.out.2.1, if_neg hy]; rfl, ?_, HXQ.out.trans (hk.2.mono fun j hj => by have h1 := HQ2.out; have h2 := HQN.out; have h3 : j = b4 := hj; omega)⟩
          rw [HJ.out.2.2, HX.out.1, runK_cons, HX.out.2.1, if_neg hy]
          exact HKQ.out.step (hk.2.mono fun j hj => .inl (.inr (.inr hj))) (fun _ h => .inl (.inl h))
      case refine_6 =>
        go_simp
        have HOw4x : Hid (Only (wr.heap.size ≤ ·) wr (w4.alloc (.cells #[.int .i64 0, .slice none 0 0, .slice none 0 0, .int .i64 0, .int .i64 0, .bool false] 34))) := Lib.hid (HOw4.out.alloc (fun _ h => h) _)
        have HB7 : Hid (Blk (w4.alloc (.cells #[.int .i64 0, .slice none 0 0, .slice none 0 0, .int .i64 0, .int .i64 0, .bool false] 34)) w4.heap.size 34 [.int .i64 0, .slice none 0 0, .slice none 0 0, .int .i64 0, .int .i64 0, .bool false]) := Lib.hid (Blk.new w4 _ _)
        have HG7 : Hid (wr.heap.size ≤ w4.heap.size) := Lib.hid HOw4.out.size
        clear hHeld
        refine hK.out _ _ (KP.out _ HOw4x.out) (fun hHeld => ?_)
        clear hK K
        try simp only [Act.put, lsa, lsz, lss]
        generalize hwz : (w4.alloc (.cells #[.int .i64 0, .slice none 0 0, .slice none 0 0, .int .i64 0, .int .i64 0, .bool false] 34)) = w4x at HOw4x HB7 hHeld ⊢
        clear hwz
        generalize hbz : w4.heap.size = b7 at HB7 HG7 ⊢
        clear hbz
        refine wpAnyL_ready (rs := [5]) (by kernel_rfl) (by kernel_rfl) (by simp) ?_
        refine AllReadyL.cons (o := ?_) ?_ (fun K hK => ?_) AllReadyL.nil
        case refine_2 => (simp only [List.getElem?_cons_succ, List.getElem?_cons_zero]; rfl)
        go_simp
        (go_at_call 11; (with_reducible refine (HDO.out _ HOw4x.out).mono ?_); rintro e w4xx ⟨L', BA', bn', bc', RA', rn', rc', op', fu', dn', rfl, hk, ho⟩; have HKA := Lib.hid (hk.step (D' := (fun j => (D j ∨ j = b2 ∨ j = b4) ∨ j = b7)) (Only.refl _ _) (fun j hj => .inl (hj.imp id fun e => by rw [e]; exact ⟨HG7.out, HB7.out.lt⟩))); have HOw4xx : Hid (Only (wr.heap.size ≤ ·) wr w4xx) := Lib.hid (on_new HOw4x.out ho); (replace HB7 := Lib.hid (HB7.out.only ho (Nat.not_le.2 HB7.out.lt))); clear hk ho)
        go_wp2_with (fail)
        clear hHeld
        refine hK.out _ _ (KP.out _ HOw4xx.out) (fun hHeld => ?_)
        clear hK K
        try simp only [Act.put, lsa, lsz, lss]
        refine oneA 6 16 hsel (h := ?_)
        simp only [Act.put, lsa, lsz, lss]
        refine oneA 7 23 hsel (h := ?_)
        simp only [Act.put, lsa, lsz, lss]
        refine oneA 8 24 hsel (h := ?_)
        simp only [Act.put, lsa, lsz, lss]
        refine oneA 9 25 hsel (h := ?_)
        simp only [Act.put, lsa, lsz, lss]
        refine wpAnyL_ready (rs := [11]) (by kernel_rfl) (by kernel_rfl) (by simp) ?_
        refine AllReadyL.cons (o := ?_) ?_ (fun K hK => ?_) AllReadyL.nil
        case refine_2 => (simp only [List.getElem?_cons_succ, List.getElem?_cons_zero]; rfl)
        obtain ⟨r0, r1, r2, r3, r4, r5⟩ := blk_six HB7.out
        have f0 := HB7.out.frozen 0
        have f1 := HB7.out.frozen 1
        have f2 := HB7.out.frozen 2
        have f3 := HB7.out.frozen 3
        have f4 := HB7.out.frozen 4
        have f5 := HB7.out.frozen 5
        go_simp
        clear r0 r1 r2 r3 r4 r5 f0 f1 f2 f3 f4 f5
        have hk := kd_set (a' := .int .i64 L') (b' := .slice BA' bn' bc') (c' := .slice RA' rn' rc') (d' := .int .i64 op') (e' := .int .i64 fu') (f' := .bool dn') HB7.out
        generalize hw7 : (((((w4xx.setCell ⟨b7, 0, none⟩ (.int .i64 L')).setCell ⟨b7, 1, none⟩ (.slice BA' bn' bc')).setCell ⟨b7, 2, none⟩ (.slice RA' rn' rc')).setCell ⟨b7, 3, none⟩ (.int .i64 op')).setCell ⟨b7, 4, none⟩ (.int .i64 fu')).setCell ⟨b7, 5, none⟩ (.bool dn') = w4xxx at hk ⊢
        clear hw7
        replace HB7 := Lib.hid hk.1
        have HS7 : Hid (Only (· = b7) w4xx w4xxx) := Lib.hid hk.2
        clear hk
        replace HKA := Lib.hid (HKA.out.step (D' := (fun j => (D j ∨ j = b2 ∨ j = b4) ∨ j = b7)) (HS7.out.mono fun j hj => .inl (.inr hj)) (fun _ h => .inl h))
        have HOw4xxx : Hid (Only (wr.heap.size ≤ ·) wr w4xxx) := Lib.hid (HOw4xx.out.trans (HS7.out.mono fun j hj => by rw [show j = b7 from hj]; exact HG7.out))
        clear hHeld
        refine hK.out _ _ (KP.out _ HOw4xxx.out) (fun hHeld => ?_)
        clear hK K
        try simp only [Act.put, lsa, lsz, lss]
        refine oneA 12 8 hsel (h := ?_)
        simp only [Act.put, lsa, lsz, lss]
        refine oneA 13 9 hsel (h := ?_)
        simp only [Act.put, lsa, lsz, lss]
        refine wpAnyL_done (by kernel_rfl) (by kernel_rfl) ?_ _
        clear hsel hHeld
        clear HSX HDO KP HST
        have HB2w := Lib.hid (HB2.out.only HOw4xxx.out (Nat.not_le.2 HB2.out.lt))
        have HB4w := Lib.hid (HB4.out.only HOw4xxx.out (Nat.not_le.2 HB4.out.lt))
        have HLT := Lib.hid (And.intro HB2.out.lt (And.intro HB4.out.lt HQN.out))
        have HG2 := Lib.hid HG7.out
        have HXW := Lib.hid (on_new HO.out HOw4xxx.out)
        clear HB2 HB4
        obtain ⟨r0, r1, r2, r3, r4, r5⟩ := blk_six HB7.out
        obtain ⟨i0, i1, i2, i3, i4, i5⟩ := blk_six HB2w.out
        have f0 := HB2w.out.frozen 0
        have f1 := HB2w.out.frozen 1
        have f2 := HB2w.out.frozen 2
        have f3 := HB2w.out.frozen 3
        have f4 := HB2w.out.frozen 4
        have f5 := HB2w.out.frozen 5
        go_upto_region 6 with (fail)
        clear r0 r1 r2 r3 r4 r5 i0 i1 i2 i3 i4 i5 f0 f1 f2 f3 f4 f5
        have hk := kd_set (a' := .int .i64 L') (b' := .slice BA' bn' bc') (c' := .slice RA' rn' rc') (d' := .int .i64 op') (e' := .int .i64 fu') (f' := .bool dn') HB2w.out
        generalize hw7 : (((((w4xxx.setCell ⟨b2, 0, none⟩ (.int .i64 L')).setCell ⟨b2, 1, none⟩ (.slice BA' bn' bc')).setCell ⟨b2, 2, none⟩ (.slice RA' rn' rc')).setCell ⟨b2, 3, none⟩ (.int .i64 op')).setCell ⟨b2, 4, none⟩ (.int .i64 fu')).setCell ⟨b2, 5, none⟩ (.bool dn') = wq at hk ⊢
        clear hw7
        have HB2 := Lib.hid hk.1
        have HS2 : Hid (Only (· = b2) w4xxx wq) := Lib.hid hk.2
        clear hk HB2w HB7
        have HKQ := Lib.hid (HKA.out.step (D' := (fun j => D j ∨ j = b2 ∨ j = b4)) (HS2.out.mono fun j hj => .inl (.inl (.inr (.inl hj)))) (fun _ h => .inl (.inl h)))
        have HB4 := Lib.hid (HB4w.out.only HS2.out (fun e => by have h1 := HQ2.out; have h2 := HQN.out; have h3 : b4 = b2 := e; omega))
        have HXQ : Hid (Only (w.heap.size ≤ ·) w wq) := Lib.hid (HXW.out.trans (HS2.out.mono fun j hj => by have h1 := HQ2.out; have h3 : j = b2 := hj; omega))
        clear HKA HS2 HB4w HG7 HG2 HXW
        by_cases hy : y = 0
        · subst hy
          have hk1 : wrap64 ((k : Int) + 1) = ((k + 1 : Nat) : Int) := by rw [IntWalk.wrap64_in _ (by omega)]; omega
          go_wp2
          go_roundg (n - (k + 1))
          case measure => (clear hk1; omega)
          case rel => exact ⟨k + 1, d', L', BA', bn', bc', RA', rn', rc', op', fu', dn', rfl, hlt, by first | rfl | (rw [← hk1]; rfl) | (rw [hk1]), HB2, HB4, HKQ, Lib.hid ⟨HX.out.2.2.2 (by trivial), HX.out.2.2.1, by rw [HJ.out.2.2, HX.out.1, runK_cons, HX.out.2.1, if_pos rfl]⟩, HXQ⟩
        · obtain ⟨i0, i1, i2, i3, i4, i5⟩ := blk_six HB2.out
          obtain ⟨r0, r1, r2, r3, r4, r5⟩ := blk_six HB4.out
          have f0 := HB4.out.frozen 0
          have f1 := HB4.out.frozen 1
          have f2 := HB4.out.frozen 2
          have f3 := HB4.out.frozen 3
          have f4 := HB4.out.frozen 4
          have f5 := HB4.out.frozen 5
          go_wp2
          have hk := kd_set (a' := .int .i64 L') (b' := .slice BA' bn' bc') (c' := .slice RA' rn' rc') (d' := .int .i64 op') (e' := .int .i64 fu') (f' := .bool dn') HB4.out
          refine bodyPost_ret (k_results_cell_tmp rfl rfl (load_kd hk.1)) rfl ?_
          refine ⟨_, by rw [HJ.out.2.2, HX.out.1, runK_cons, HX.out.2.1, if_neg hy]; rfl, ?_, HXQ.out.trans (hk.2.mono fun j hj => by have h1 := HQ2.out; have h2 := HQN.out; have h3 : j = b4 := hj; omega)⟩
          rw [HJ.out.2.2, HX.out.1, runK_cons, HX.out.2.1, if_neg hy]
          exact HKQ.out.step (hk.2.mono fun j hj => .inl (.inr (.inr hj))) (fun _ h => .inl (.inl h))
    · obtain rfl : k = n := by omega
      have hd0 : l.drop k = [] := List.drop_eq_nil_of_le (by have h9 := HLN.out; omega)
      have hfin : runK d l = (dj, 0) := by rw [HJ.out.2.2, hd0]; rfl
      obtain ⟨i0, i1, i2, i3, i4, i5⟩ := blk_six HB2.out
      obtain ⟨r0, r1, r2, r3, r4, r5⟩ := blk_six HB4.out
      have f0 := HB4.out.frozen 0
      have f1 := HB4.out.frozen 1
      have f2 := HB4.out.frozen 2
      have f3 := HB4.out.frozen 3
      have f4 := HB4.out.frozen 4
      have f5 := HB4.out.frozen 5
      clear hd0
      have HF := Lib.hid hfin
      clear hfin
      go_wp2
      have hk := kd_set (a' := .int .i64 L) (b' := .slice BA bn bc) (c' := .slice RA rn rc) (d' := .int .i64 op) (e' := .int .i64 fu) (f' := .bool dn) HB4.out
      refine bodyPost_ret (k_results_cell_tmp rfl rfl (load_kd hk.1)) rfl ?_
      refine ⟨_, by rw [HF.out]; rfl, ?_, HO.out.trans (hk.2.mono fun j hj => by have h1 := HQ2.out; have h2 := HQN.out; have h3 : j = b4 := hj; omega)⟩
      rw [HF.out]
      exact HK.out.step (hk.2.mono fun j hj => .inl (.inr (.inr hj))) (fun _ h => .inl (.inl h))
end Go.Proofs.YtbpldkhgiddmlaaGreatDoor
