/-
  Rows of writes; what write does to a disk.
-/
import Derived.Test.YtbpldkhgiddmlaaGreatDoorPgb
import Derived.Test.YtbpldkhgiddmlaaGreatDoorGb
import Derived.Deep.LoopGhost
import Derived.RegionTactic
import Derived.BigRegion
import Derived.OpenShut
import Derived.Deep.CutRange
import Derived.WalkMore
set_option linter.unusedVariables false
namespace Go.Proofs.YtbpldkhgiddmlaaGreatDoor
open Go.RowKit

abbrev Wt := Int × Bytes
def wrE : El Wt where
  z := 2
  At w x cs := ∃ A c, cs = [.int .i64 x.1, .slice A x.2.length c] ∧ Src w (.slice A x.2.length c) x.2
  len := fun ⟨A, c, e, _⟩ => by rw [e]; rfl
  one := fun ⟨A, c, e, _⟩ u hu => by
    rw [e] at hu
    simp at hu
    rcases hu with rfl | rfl <;> rfl
  later := fun ⟨A, c, e, h1⟩ ho => ⟨A, c, e, h1.later ho⟩
abbrev Wts := Rw wrE
theorem wts_at {F : Nat → Prop} {w : World} {A : Option Addr} {n c k : Nat} {l : List Wt} (h : SRw wrE F w (.slice A n c) l) (hk : k < n) : ∃ (b off : Nat) (x : Wt) (P : Option Addr) (cp : Nat), A = some ⟨b, off, none⟩ ∧ l[k]? = some x ∧
    Stab F w (fun W => W.cell? ⟨b, off + k * 2, none⟩ = some (.int .i64 x.1) ∧ W.cell? ⟨b, off + k * 2 + 1, none⟩ = some (.slice P x.2.length cp) ∧ Src W (.slice P x.2.length cp) x.2) := by
  obtain rfl := h.len
  obtain ⟨C, hC⟩ := h
  have hx : l[k]? = some l[k] := List.getElem?_eq_getElem hk
  have h0 := hC.now
  obtain ⟨cs, ⟨P, cp, rfl, hs⟩, hg⟩ := Den.get (fun _ _ => wrE.len) h0.1 hx
  have hl : C.length = l.length * 2 := Den.length (fun _ _ => wrE.len) h0.1
  obtain ⟨A0, c0, e0, hl0, hr0, _⟩ := h0.2
  simp only [Value.slice.injEq] at e0
  obtain ⟨e1, _, _⟩ := e0
  subst e1
  obtain ⟨b, off, e, hb, hc⟩ := hr0 (by rw [hl]; omega)
  refine ⟨b, off, l[k], P, cp, e, hx, fun W hW => ?_⟩
  obtain ⟨hd, A1, c1, e1, hl1, hr1, _⟩ := hC W hW
  simp only [Value.slice.injEq] at e1
  obtain ⟨e2, _, _⟩ := e1
  subst e2
  obtain ⟨b', off', e', hb', hc'⟩ := hr1 (by rw [hl]; omega)
  rw [e] at e'
  cases e'
  obtain ⟨cs', ⟨P', cp', rfl, hs'⟩, hg'⟩ := Den.get (fun _ _ => wrE.len) hd hx
  have k1 := hg 1 _ rfl
  have k2 := hg' 1 _ rfl
  rw [k1] at k2
  simp only [Option.some.injEq, Value.slice.injEq] at k2
  obtain ⟨k3, _, k4⟩ := k2
  subst k3 k4
  have c0 := hc' _ _ (hg' 0 _ rfl)
  have c1 := hc' _ _ k1
  exact ⟨c0, c1, hs'⟩

/-- Writes, one behind the other, until one tells an error. -/
def wrs : Dk.Dsk → List Wt → Dk.Dsk × Int
  | d, [] => (d, 0)
  | d, x :: r => if (d.write (x.1 * 4) x.2).2 = 0 then wrs (d.write (x.1 * 4) x.2).1 r else d.write (x.1 * 4) x.2
def rds : Dk.Dsk → List (List Wt) → Dk.Dsk × Int
  | d, [] => (d, 0)
  | d, l :: L => if (wrs d l).2 = 0 then (if (wrs d l).1.sync.2 = 0 then rds (wrs d l).1.sync.1 L else (wrs d l).1.sync) else wrs d l
def wrP (d : Dk.Dsk) (pages : Int) (L : List (List Wt)) : Dk.Dsk × Int := if (d.grow (pages * 4)).2 = 0 then rds (d.grow (pages * 4)).1 L else d.grow (pages * 4)

/-- There is room for n counts more. -/
def Roomy (d : Dk.Dsk) (n : Nat) : Prop := d.ops + n ≤ 4611686018427387903 ∧ d.row.length + n ≤ 4294967296
theorem Roomy.le {d : Dk.Dsk} {n m : Nat} (h : Roomy d n) (hm : m ≤ n) : Roomy d m := ⟨by have := h.1; omega, by have := h.2; omega⟩
theorem op_small (d : Dk.Dsk) : d.op.1.ops ≤ d.ops + 1 ∧ d.op.1.row = d.row := by
  unfold Dk.Dsk.op
  split
  · exact ⟨Nat.le_refl _, rfl⟩
  · split
    · exact ⟨Nat.le_refl _, rfl⟩
    · exact ⟨Nat.le_refl _, rfl⟩
theorem Roomy.write {d : Dk.Dsk} {a : Int} {xs : Bytes} {n : Nat} (h : Roomy d (xs.length + 1 + n)) : Roomy (d.write a xs).1 n := by
  obtain ⟨h1, h2⟩ := h
  unfold Dk.Dsk.write
  split
  · exact ⟨by dsimp only; omega, by dsimp only; omega⟩
  · split
    · exact ⟨by dsimp only; omega, by dsimp only; omega⟩
    · split
      · exact ⟨by dsimp only; omega, by dsimp only; omega⟩
      · obtain ⟨k1, k2⟩ := op_small { d with row := d.row ++ Dk.chunks a.toNat xs (xs.length / 64) }
        refine ⟨Nat.le_trans (Nat.add_le_add_right k1 n) (by show d.ops + 1 + n ≤ _; omega), ?_⟩
        rw [k2]
        simp only [List.length_append, Dk.chunks_length]
        omega
theorem Roomy.sync {d : Dk.Dsk} {n : Nat} (h : Roomy d (1 + n)) : Roomy d.sync.1 n := by
  obtain ⟨h1, h2⟩ := h
  obtain ⟨k1, k2⟩ := op_small d
  unfold Dk.Dsk.sync
  split
  · exact ⟨by dsimp only; omega, by dsimp only; omega⟩
  · split
    · exact ⟨by omega, by rw [k2]; omega⟩
    · exact ⟨Nat.le_trans (Nat.add_le_add_right k1 n) (by omega), by simp only [List.length_nil]; omega⟩
theorem Roomy.grow {d : Dk.Dsk} {a : Int} {n : Nat} (h : Roomy d n) : Roomy (d.grow a).1 n := by
  unfold Dk.Dsk.grow
  split
  · exact h
  · split
    · exact h
    · exact h
def cost (l : List Wt) : Nat := (l.map fun x => x.2.length + 1).sum
def costs (L : List (List Wt)) : Nat := (L.map fun l => cost l + 1).sum
theorem dropW_cons {α : Type} {l : List α} {k : Nat} {x : α} (h : l[k]? = some x) : l.drop k = x :: l.drop (k + 1) := by
  obtain ⟨hk, e⟩ := List.getElem?_eq_some_iff.1 h
  rw [List.drop_eq_getElem_cons hk, e]
def OkW (x : Wt) : Prop := 0 ≤ x.1 ∧ x.1 ≤ 1000000000

theorem wrs_ok {d : Dk.Dsk} {x : Wt} {r : List Wt} (h : (d.write (x.1 * 4) x.2).2 = 0) : wrs d (x :: r) = wrs (d.write (x.1 * 4) x.2).1 r := by rw [wrs, if_pos h]
theorem wrs_bad {d : Dk.Dsk} {x : Wt} {r : List Wt} (h : ¬ (d.write (x.1 * 4) x.2).2 = 0) : wrs d (x :: r) = d.write (x.1 * 4) x.2 := by rw [wrs, if_neg h]
theorem rds_bad {d : Dk.Dsk} {l : List Wt} {L : List (List Wt)} (h : ¬ (wrs d l).2 = 0) : rds d (l :: L) = wrs d l := by rw [rds, if_neg h]
theorem rds_ok {d d1 : Dk.Dsk} {l : List Wt} {L : List (List Wt)} (h : wrs d l = (d1, 0)) (h2 : d1.sync.2 = 0) : rds d (l :: L) = rds d1.sync.1 L := by rw [rds, h, if_pos rfl, if_pos h2]
theorem rds_sync {d d1 : Dk.Dsk} {l : List Wt} {L : List (List Wt)} (h : wrs d l = (d1, 0)) (h2 : ¬ d1.sync.2 = 0) : rds d (l :: L) = d1.sync := by rw [rds, h, if_pos rfl, if_neg h2]
theorem PAt.next {w0 wr wx w7 : World} {q p : Nat} {dj d' : Dk.Dsk} {Dj Dk : Nat → Prop} (hs : ∀ k, Dj k → Dk k ∨ w0.heap.size ≤ k) (ho : Only (fun k => Dk k ∨ w0.heap.size ≤ k) w0 wr) (hx : Only (wr.heap.size ≤ ·) wr wx) (ha : PAt wr q p dj Dj) (hg : DGave wx w7 p d' Dj) : PGave w0 w7 q p d' Dk :=
  PGave.trans (ho.trans (hx.mono fun _ hk => .inr (Nat.le_trans ho.size hk))) hs ((ha.later hx).gave hg)

set_option maxRecDepth 100000 in
set_option maxHeartbeats 12800000 in
theorem Pgwrite_c (w : World) (q p : Nat) (d : Dk.Dsk) (D : Nat → Prop) (h : PAt w q p d D) (pages : Int) (rb m : Nat) (LV : List (Value × List Wt))
    (hp : 0 ≤ pages ∧ pages ≤ 1000000000) (hm : LV.length = m) (hR : Stab D w (fun W => ∀ (k : Nat) (x : Value × List Wt), LV[k]? = some x → W.cell? ⟨rb, k, none⟩ = some x.1))
    (hW : ∀ x ∈ LV, ∃ A n c, x.1 = .slice A n c ∧ n ≤ c ∧ c ≤ 9223372036854775807 ∧ SRw wrE D w (.slice A n c) x.2) (hok : ∀ x ∈ LV, ∀ y ∈ x.2, OkW y) (hroom : Roomy d (costs (LV.map (·.2)))) (hm3 : m ≤ 1000) :
    Calls Tryz.prog 43 #[.pointer (some ⟨q, 0, none⟩), .int .i64 pages, .slice (some ⟨rb, 0, none⟩) m m] w fun e w' => e = .returned (.int .i64 (wrP d pages (LV.map (·.2))).2) ∧ PGave w w' q p (wrP d pages (LV.map (·.2))).1 D := by
  have h0 := h.blk.cell 0
  simp only [List.getElem?_cons_zero] at h0
  have k1 : IntKind.i64.wrap (pages * 4) = pages * 4 := IntWalk.i64_in _ (by omega)
  have HGR := Lib.hid (Grow_d w p d D h.dat (pages * 4) (by unfold I64v; omega))
  have HP := Lib.hid h
  have HR := Lib.hid hR
  have HW := Lib.hid hW
  have HOK := Lib.hid hok
  have HM := Lib.hid hm
  have HRM := Lib.hid hroom
  clear h hR hW hok hm hroom
  obtain ⟨ge, hge⟩ : ∃ z, z = (d.grow (pages * 4)).2 := ⟨_, rfl⟩
  rw [← hge] at HGR
  by_cases g0 : ge = 0
  · have E : Hid (wrP d pages (LV.map (·.2)) = rds (d.grow (pages * 4)).1 (LV.map (·.2))) := Lib.hid (if_pos (by rw [← hge]; exact g0))
    subst g0
    clear hge
    go_enter Tryz.func43, Tryz.ntmps43
    go_wp2
    go_step3
    go_wp2_with (go_at_call 61; (with_reducible refine HGR.out.mono ?_); rintro e w1 ⟨rfl, hg⟩; have HG := Lib.hid hg; clear hg)
    go_step3
    go_wp2
    clear h0 k1
    obtain ⟨o1, D1, a1, s1⟩ := HP.out.gave HG.out
    have HI : Hid (∃ dk Dk', PAt w1 q p dk Dk' ∧ (∀ k, Dk' k → D k ∨ w.heap.size ≤ k) ∧ Only (fun k => D k ∨ w.heap.size ≤ k) w w1 ∧ rds dk ((LV.map (·.2)).drop 0) = rds (d.grow (pages * 4)).1 (LV.map (·.2)) ∧ Roomy dk (costs ((LV.map (·.2)).drop 0))) := Lib.hid ⟨_, D1, a1, s1, o1, rfl, HRM.out.grow⟩
    obtain ⟨RES, hres⟩ : ∃ z, z = rds (d.grow (pages * 4)).1 (LV.map (·.2)) := ⟨_, rfl⟩
    rw [← hres] at HI E
    clear hres HG HGR HRM HP o1 a1 s1
    go_loopg [7, 24] m (fun gk e i wr => ∃ k : Nat, gk = m - k ∧ k ≤ m ∧ e = .int .i64 0 ∧ i = .int .i64 (k : Int) ∧ Hid (∃ dk Dk', PAt wr q p dk Dk' ∧ (∀ k, Dk' k → D k ∨ w.heap.size ≤ k) ∧ Only (fun k => D k ∨ w.heap.size ≤ k) w wr ∧ rds dk ((LV.map (·.2)).drop k) = RES ∧ Roomy dk (costs ((LV.map (·.2)).drop k))))
    case atStart => exact ⟨0, rfl, Nat.zero_le _, rfl, rfl, HI⟩
    case round =>
      clear HI
      obtain ⟨k, rfl, hk, rfl, rfl, HI⟩ := hrel
      by_cases hlt : k < m
      · have hlt' : (k : Int) < (m : Int) := by omega
        obtain ⟨dk, Dk', aa, ss, oo, hrds, hroom⟩ := HI.out
        obtain ⟨y, hx⟩ : ∃ y, LV[k]? = some y := ⟨_, List.getElem?_eq_getElem (by rw [HM.out]; exact hlt)⟩
        have hcell : wr.cell? ⟨rb, k, none⟩ = some y.1 := HR.out wr oo k y hx
        obtain ⟨A, n, c, hy1, hnc, hc, hrow⟩ := HW.out y (List.mem_of_getElem? hx)
        rw [hy1] at hcell
        have hd := dropW_cons (l := LV.map (·.2)) (k := k) (x := y.2) (by rw [List.getElem?_map, hx]; rfl)
        have HROW : Hid (SRw wrE Dk' wr (.slice A n c) y.2) := Lib.hid (hrow.step oo ss)
        have HOY : Hid (∀ u ∈ y.2, OkW u) := Lib.hid (HOK.out y (List.mem_of_getElem? hx))
        obtain ⟨l, hl⟩ : ∃ l, l = y.2 := ⟨_, rfl⟩
        rw [← hl] at hd HROW HOY
        have HNL : Hid (n = l.length) := Lib.hid HROW.out.len
        have HJ : Hid (∃ dj Dj, PAt wr q p dj Dj ∧ (∀ k, Dj k → Dk' k ∨ wr.heap.size ≤ k) ∧ Only (fun k => Dk' k ∨ wr.heap.size ≤ k) wr wr ∧ wrs dj (l.drop 0) = wrs dk l ∧ Roomy dj (cost (l.drop 0) + (1 + costs ((LV.map (·.2)).drop (k + 1))))) := Lib.hid ⟨dk, Dk', aa, fun _ hk => .inl hk, Only.refl _ _, rfl, hroom.le (by rw [hd]; simp only [costs, cost, List.map_cons, List.sum_cons, List.drop_zero]; omega)⟩
        have HRD : Hid (rds dk (l :: (LV.map (·.2)).drop (k + 1)) = RES) := Lib.hid (by rw [← hd]; exact hrds)
        have HSS := Lib.hid ss
        have HOO := Lib.hid oo
        clear hroom hrds hd hx hy1 hrow hl oo ss aa HI
        go_wp2_with (fail)
        clear hcell
        obtain ⟨w0, hw0⟩ : ∃ z, z = wr := ⟨_, rfl⟩
        subst hw0
        go_loopg [7, 30] n (fun gk e i wr => ∃ j : Nat, gk = n - j ∧ j ≤ n ∧ e = .int .i64 0 ∧ i = .int .i64 (j : Int) ∧ Hid (∃ dj Dj, PAt wr q p dj Dj ∧ (∀ k, Dj k → Dk' k ∨ w0.heap.size ≤ k) ∧ Only (fun k => Dk' k ∨ w0.heap.size ≤ k) w0 wr ∧ wrs dj (l.drop j) = wrs dk l ∧ Roomy dj (cost (l.drop j) + (1 + costs ((LV.map (·.2)).drop (k + 1))))))
        case atStart => exact ⟨0, rfl, Nat.zero_le _, rfl, rfl, HJ⟩
        case round =>
          clear HJ
          obtain ⟨j, rfl, hj, rfl, rfl, HJ⟩ := hrel
          by_cases hjn : j < n
          · have hjn' : (j : Int) < (n : Int) := by omega
            obtain ⟨dj, Dj, aj, sj, oj, hwrs, hroom⟩ := HJ.out
            obtain ⟨b, off, x, P, cp, rfl, hx, hst⟩ := wts_at HROW.out hjn
            obtain ⟨c0, c1, _⟩ := hst wr oj
            have hox := HOY.out x (List.mem_of_getElem? hx)
            have hd := dropW_cons hx
            rw [hd] at hwrs hroom
            have hst2 := hst.step oj sj
            have HST := Lib.hid hst2
            have HRM : Hid (Roomy dj (x.2.length + 1 + (cost (l.drop (j + 1)) + (1 + costs ((LV.map (·.2)).drop (k + 1)))))) := Lib.hid (hroom.le (by simp only [cost, List.map_cons, List.sum_cons]; omega))
            have HWRS := Lib.hid hwrs
            have HAJ := Lib.hid aj
            have HSJ := Lib.hid sj
            have HOJ := Lib.hid oj
            have k1 : IntKind.i64.wrap (x.1 * 4) = x.1 * 4 := IntWalk.i64_in _ (by have := hox; unfold OkW at this; omega)
            have hox2 : Hid (I64v (x.1 * 4)) := Lib.hid (by have := hox; unfold OkW at this; unfold I64v; omega)
            clear hst hst2 hroom hwrs hd hox aj sj oj HJ
            go_upto_region 10 with (fail)
            obtain ⟨w5, hw5⟩ : ∃ z9, z9 = wr.alloc (.cells #[.int .i64 x.1, .slice P x.2.length cp] 71) := ⟨_, rfl⟩
            obtain ⟨b5, hb5⟩ : ∃ z9, z9 = wr.heap.size := ⟨_, rfl⟩
            have Hb5 : Hid (Blk w5 b5 71 [.int .i64 x.1, .slice P x.2.length cp]) := Lib.hid (by rw [hw5, hb5]; exact Blk.new wr _ [.int .i64 x.1, .slice P x.2.length cp])
            have HXb5 : Hid (Only (wr.heap.size ≤ ·) wr w5) := Lib.hid (by rw [hw5]; exact (Only.refl _ wr).alloc (fun _ h => h) _)
            have HEQb5 : Hid (w5 = wr.alloc (.cells #[.int .i64 x.1, .slice P x.2.length cp] 71) ∧ b5 = wr.heap.size) := Lib.hid ⟨hw5, hb5⟩
            clear hw5 hb5
            have HAX := Lib.hid (HAJ.out.later HXb5.out)
            rw [← HEQb5.out.1, ← HEQb5.out.2]
            obtain ⟨we, hwe⟩ : ∃ z, z = (dj.write (x.1 * 4) x.2).2 := ⟨_, rfl⟩
            have HWR : Hid (∀ W, Only (w5.heap.size ≤ ·) w5 W → Calls Tryz.prog 62 #[.pointer (some ⟨p, 0, none⟩), .int .i64 (x.1 * 4), .slice P x.2.length cp] W fun e w' => e = .returned (.int .i64 we) ∧ DGave W w' p (dj.write (x.1 * 4) x.2).1 Dj) := Lib.hid (fun W hW => by
              rw [hwe]
              exact Write_d W p dj Dj (HAX.out.dat.later hW) (by have := HRM.out.1; omega) (by have := HRM.out.2; omega) (x.1 * 4) hox2.out P x.2.length cp x.2 (((HST.out.later HXb5.out).later hW).imp fun W hW => hW.2.2))
            have HB5 := Hb5
            have HDX : Hid (Only (w5.heap.size ≤ ·) w5 w5.drew) := Lib.hid ((Only.refl _ w5).drew)
            have HSX : Hid ((fun W : World => W.cell? ⟨q, 0, none⟩ = some (.pointer (some ⟨p, 0, none⟩)) ∧ W.cell? ⟨b5, 0, none⟩ = some (.int .i64 x.1) ∧ W.cell? ⟨b5, 1, none⟩ = some (.slice P x.2.length cp)) w5.drew) := Lib.hid ⟨HAX.out.blk.cell 0, HB5.out.cell 0, HB5.out.cell 1⟩
            have HNX : Hid (∀ W W', Only (w5.heap.size ≤ ·) w5 W → DGave W W' p (dj.write (x.1 * 4) x.2).1 Dj → PGave w0 W' q p (dj.write (x.1 * 4) x.2).1 Dk') := Lib.hid (fun W W' hW hg => PAt.next HSJ.out HOJ.out ((HXb5.out).trans (hW.mono fun k hk => Nat.le_trans HXb5.out.size hk)) HAJ.out hg)
            have HS7 : Hid (∀ W W', Only (w5.heap.size ≤ ·) w5 W → DGave W W' p (dj.write (x.1 * 4) x.2).1 Dj → (fun W : World => W.cell? ⟨q, 0, none⟩ = some (.pointer (some ⟨p, 0, none⟩)) ∧ W.cell? ⟨b5, 0, none⟩ = some (.int .i64 x.1) ∧ W.cell? ⟨b5, 1, none⟩ = some (.slice P x.2.length cp)) W') := Lib.hid (fun W W' hW hg => by
              obtain ⟨o, D7, a7, s7⟩ := (HAX.out.later hW).gave hg
              have hb : Blk W b5 71 [.int .i64 x.1, .slice P x.2.length cp] := HB5.out.only hW (Nat.not_le.2 HB5.out.lt)
              have hb2 : Blk W' b5 71 [.int .i64 x.1, .slice P x.2.length cp] := hb.only o (fun hk => hk.elim (fun hk => by have h1 := HAJ.out.dat.lt _ hk; have h2 := HEQb5.out.2; omega) (fun hk => by have h1 := hb.lt; omega))
              exact ⟨a7.blk.cell 0, hb2.cell 0, hb2.cell 1⟩)
            by_cases hz : we = 0
            · have HW0 : Hid (wrs (dj.write (x.1 * 4) x.2).1 (l.drop (j + 1)) = wrs dk l) := Lib.hid (by rw [← HWRS.out]; exact (wrs_ok (by rw [← hwe]; exact hz)).symm)
              have HR0 : Hid (Roomy (dj.write (x.1 * 4) x.2).1 (cost (l.drop (j + 1)) + (1 + costs ((LV.map (·.2)).drop (k + 1))))) := Lib.hid HRM.out.write
              subst hz
              clear hwe
              go_wp2_with (fail)
              refine wp_region_list (B := [false, false, false, false, false, false, false, false, false, false, false]) (S := (fun W : World => W.cell? ⟨q, 0, none⟩ = some (.pointer (some ⟨p, 0, none⟩)) ∧ W.cell? ⟨b5, 0, none⟩ = some (.int .i64 x.1) ∧ W.cell? ⟨b5, 1, none⟩ = some (.slice P x.2.length cp))) (by kernel_rfl) (by kernel_rfl) (by kernel_rfl) HSX.out (fun hsel hHeld => ?_)
              generalize hwz : World.drew _ = wx at HDX HSX hHeld ⊢
              clear hwz
              refine oneA 0 34 hsel (h := ?_)
              simp only [Act.put, lsa, lsz, lss]
              refine oneA 1 35 hsel (h := ?_)
              simp only [Act.put, lsa, lsz, lss]
              refine oneA 2 36 hsel (h := ?_)
              simp only [Act.put, lsa, lsz, lss]
              refine oneA 3 37 hsel (h := ?_)
              simp only [Act.put, lsa, lsz, lss]
              refine oneA 4 38 hsel (h := ?_)
              simp only [Act.put, lsa, lsz, lss]
              refine oneA 5 39 hsel (h := ?_)
              simp only [Act.put, lsa, lsz, lss]
              refine oneA 6 40 hsel (h := ?_)
              simp only [Act.put, lsa, lsz, lss]
              refine oneA 7 41 hsel (h := ?_)
              simp only [Act.put, lsa, lsz, lss]
              refine oneA 8 42 hsel (h := ?_)
              simp only [Act.put, lsa, lsz, lss]
              refine wpAnyL_ready (rs := [9]) (by kernel_rfl) (by kernel_rfl) (by simp) ?_
              refine AllReadyL.cons (o := ?_) ?_ (fun K hK => ?_) AllReadyL.nil
              case refine_2 => (simp only [List.getElem?_cons_succ, List.getElem?_cons_zero]; rfl)
              go_simp
              (go_at_call 62; (with_reducible refine (HWR.out _ HDX.out).mono ?_); rintro e w7 ⟨rfl, hg⟩; have HG := Lib.hid hg; clear hg)
              go_wp2_with (fail)
              clear hHeld
              refine hK.out _ _ (HS7.out _ _ HDX.out HG.out) (fun hHeld => ?_)
              clear hK K
              try simp only [Act.put, lsa, lsz, lss]
              refine oneA 10 7 hsel (h := ?_)
              simp only [Act.put, lsa, lsz, lss]
              refine wpAnyL_done (by kernel_rfl) (by kernel_rfl) ?_ _
              clear hsel hHeld
              go_wp2_with (fail)
              go_roundg (n - (j + 1))
              case measure => omega
              case rel =>
                obtain ⟨o7, D7, a7, s7⟩ := HNX.out _ _ HDX.out HG.out
                exact ⟨j + 1, rfl, by omega, rfl, by go_num, Lib.hid ⟨_, D7, a7, s7, o7, HW0.out, HR0.out⟩⟩
            · have HW0 : Hid (RES = dj.write (x.1 * 4) x.2) := Lib.hid (by
                have h1 : wrs dk l = dj.write (x.1 * 4) x.2 := by rw [← HWRS.out]; exact wrs_bad (by rw [← hwe]; exact hz)
                rw [← HRD.out, ← h1]
                exact rds_bad (by rw [h1, ← hwe]; exact hz))
              have HWE := Lib.hid hwe
              have hz' : (we == 0) = false := by simpa using hz
              clear hwe
              go_wp2_with (fail)
              refine wp_region_list (B := [false, false, false, false, false, false, false, false, false, false, false]) (S := (fun W : World => W.cell? ⟨q, 0, none⟩ = some (.pointer (some ⟨p, 0, none⟩)) ∧ W.cell? ⟨b5, 0, none⟩ = some (.int .i64 x.1) ∧ W.cell? ⟨b5, 1, none⟩ = some (.slice P x.2.length cp))) (by kernel_rfl) (by kernel_rfl) (by kernel_rfl) HSX.out (fun hsel hHeld => ?_)
              generalize hwz : World.drew _ = wx at HDX HSX hHeld ⊢
              clear hwz
              refine oneA 0 34 hsel (h := ?_)
              simp only [Act.put, lsa, lsz, lss]
              refine oneA 1 35 hsel (h := ?_)
              simp only [Act.put, lsa, lsz, lss]
              refine oneA 2 36 hsel (h := ?_)
              simp only [Act.put, lsa, lsz, lss]
              refine oneA 3 37 hsel (h := ?_)
              simp only [Act.put, lsa, lsz, lss]
              refine oneA 4 38 hsel (h := ?_)
              simp only [Act.put, lsa, lsz, lss]
              refine oneA 5 39 hsel (h := ?_)
              simp only [Act.put, lsa, lsz, lss]
              refine oneA 6 40 hsel (h := ?_)
              simp only [Act.put, lsa, lsz, lss]
              refine oneA 7 41 hsel (h := ?_)
              simp only [Act.put, lsa, lsz, lss]
              refine oneA 8 42 hsel (h := ?_)
              simp only [Act.put, lsa, lsz, lss]
              refine wpAnyL_ready (rs := [9]) (by kernel_rfl) (by kernel_rfl) (by simp) ?_
              refine AllReadyL.cons (o := ?_) ?_ (fun K hK => ?_) AllReadyL.nil
              case refine_2 => (simp only [List.getElem?_cons_succ, List.getElem?_cons_zero]; rfl)
              go_simp
              (go_at_call 62; (with_reducible refine (HWR.out _ HDX.out).mono ?_); rintro e w7 ⟨rfl, hg⟩; have HG := Lib.hid hg; clear hg)
              go_wp2_with (fail)
              clear hHeld
              refine hK.out _ _ (HS7.out _ _ HDX.out HG.out) (fun hHeld => ?_)
              clear hK K
              try simp only [Act.put, lsa, lsz, lss]
              refine oneA 10 7 hsel (h := ?_)
              simp only [Act.put, lsa, lsz, lss]
              refine wpAnyL_done (by kernel_rfl) (by kernel_rfl) ?_ _
              clear hsel hHeld
              go_wp2_with (fail)
              try rw [Exit.noGoto_ret]
              go_ret
              rw [E.out, HW0.out, ← HWE.out]
              exact ⟨rfl, PGave.trans HOO.out HSS.out (HNX.out _ _ HDX.out HG.out)⟩
          · obtain rfl : j = n := by omega
            have hjn' : ¬ (j : Int) < (j : Int) := by omega
            obtain ⟨dj, Dj, aj, sj, oj, hwrs, hroom⟩ := HJ.out
            rw [show l.drop j = [] by rw [HNL.out]; exact List.drop_length] at hwrs hroom
            have hq := aj.blk.cell 0
            simp only [List.getElem?_cons_zero] at hq
            obtain ⟨we, hwe⟩ : ∃ z, z = dj.sync.2 := ⟨_, rfl⟩
            have HSY := Lib.hid (Sync_d wr p dj Dj aj.dat (by have := hroom.1; omega) (by have := hroom.2; omega))
            rw [← hwe] at HSY
            have HNX : Hid (∀ W', DGave wr W' p dj.sync.1 Dj → PGave w0 W' q p dj.sync.1 Dk') := Lib.hid (fun W' hg => PAt.next sj oj (Only.refl _ _) aj hg)
            have hwl : wrs dk l = (dj, 0) := hwrs.symm
            have HRS : Hid (Roomy dj.sync.1 (costs ((LV.map (·.2)).drop (k + 1)))) := Lib.hid ((hroom.le (by omega)).sync)
            by_cases hz : we = 0
            · have HW0 : Hid (rds dj.sync.1 ((LV.map (·.2)).drop (k + 1)) = RES) := Lib.hid (by rw [← HRD.out]; exact (rds_ok hwl (by rw [← hwe]; exact hz)).symm)
              subst hz
              clear hwe hwl hwrs hroom sj oj aj HJ
              go_wp2_with (go_at_call 63; (with_reducible refine HSY.out.mono ?_); rintro e w7 ⟨rfl, hg⟩; have HG := Lib.hid hg; clear hg)
              go_roundg (m - (k + 1))
              case measure => omega
              case rel =>
                obtain ⟨o7, D7, a7, s7⟩ := PGave.trans HOO.out HSS.out (HNX.out _ HG.out)
                exact ⟨k + 1, rfl, by omega, rfl, by go_num, Lib.hid ⟨_, D7, a7, s7, o7, HW0.out, HRS.out⟩⟩
            · have HW0 : Hid (RES = dj.sync) := Lib.hid (by rw [← HRD.out]; exact rds_sync hwl (by rw [← hwe]; exact hz))
              have HWE := Lib.hid hwe
              have hz' : (we == 0) = false := by simpa using hz
              clear hwe hwl hwrs hroom sj oj aj HJ
              go_wp2_with (go_at_call 63; (with_reducible refine HSY.out.mono ?_); rintro e w7 ⟨rfl, hg⟩; have HG := Lib.hid hg; clear hg)
              try rw [Exit.noGoto_ret]
              go_ret
              rw [E.out, HW0.out, ← HWE.out]
              exact ⟨rfl, PGave.trans HOO.out HSS.out (HNX.out _ HG.out)⟩
      · obtain rfl : k = m := by omega
        have hkm : ¬ (k : Int) < (k : Int) := by omega
        go_wp2_with (fail)
        try rw [Exit.noGoto_ret]
        go_ret
        obtain ⟨dk, Dk', aa, ss, oo, hrds, hroom⟩ := HI.out
        rw [show (LV.map (·.2)).drop k = [] from List.drop_eq_nil_of_le (by rw [List.length_map, HM.out]; exact Nat.le_refl _)] at hrds
        rw [E.out, ← hrds]
        exact ⟨rfl, oo, Dk', aa, ss⟩
  · have E : Hid (wrP d pages (LV.map (·.2)) = d.grow (pages * 4)) := Lib.hid (if_neg (by rw [← hge]; exact g0))
    have HGE := Lib.hid hge
    have hz' : (ge == 0) = false := by simpa using g0
    clear hge
    go_enter Tryz.func43, Tryz.ntmps43
    go_wp2
    go_step3
    go_wp2_with (go_at_call 61; (with_reducible refine HGR.out.mono ?_); rintro e w1 ⟨rfl, hg⟩; have HG := Lib.hid hg; clear hg)
    try rw [Exit.noGoto_ret]
    go_ret
    rw [E.out, ← HGE.out]
    exact ⟨rfl, HP.out.gave HG.out⟩
end Go.Proofs.YtbpldkhgiddmlaaGreatDoor
