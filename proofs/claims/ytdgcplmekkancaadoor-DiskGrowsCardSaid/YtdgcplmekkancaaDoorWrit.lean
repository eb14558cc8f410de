/-
  Write of a disk.
-/
import Derived.Test.YtdgcplmekkancaaDoorBuil
import Derived.Deep.RegionLaw
import Derived.Deep.DrawnRows
set_option linter.unusedVariables false
namespace Go.Proofs.YtdgcplmekkancaaDoor
open Go.RowKit

/-- The 64 cells behind a pointer. -/
def secV (w : World) : Value → List Value
  | .pointer (some a) => (List.range 64).map fun j => (w.cell? ⟨a.block, a.off + j, none⟩).getD undef
  | _ => []
def FullV (w : World) (v : Value) : Prop := ∃ b o cs, v = .pointer (some ⟨b, o, none⟩) ∧ cs.length = 64 ∧ w.rangeAt b o cs
theorem secV_eq {w : World} {b o : Nat} {cs : List Value} (hl : cs.length = 64) (hr : w.rangeAt b o cs) : secV w (.pointer (some ⟨b, o, none⟩)) = cs := by
  apply List.ext_getElem?
  intro i
  simp only [secV, List.getElem?_map]
  by_cases h : i < 64
  · rw [List.getElem?_range h, List.getElem?_eq_getElem (by omega)]
    have := hr i _ (List.getElem?_eq_getElem (by omega))
    simp [this]
  · rw [List.getElem?_eq_none (by simp; omega), List.getElem?_eq_none (by omega)]
    rfl
/-- A sector's load, as one step: no cell of it is looked at. -/
theorem wp_load53 {d : Option Tmp} {x : Operand} {ty : TypeId} {ps : String} {af : Array Edge} {g : Option (Nat × Bool)} {a : Act} {w : World} {K : Act → World → Prop} {Q : Exit → Act → World → Prop} (h : FullV w (a.eval x)) :
    Oper.wp Tryd.prog { dst := d, op := .load 47 x, type := ty, pos := ps, after := af, guard := g } a w K Q = K (a.put d (.agg (secV w (a.eval x)).toArray)) w := by
  obtain ⟨b, o, cs, hv, hl, hr⟩ := h
  unfold Oper.wp execOp
  simp only [hv, Instr.loadAt, Instr.sureAddr, Sem.run_bind, Sem.run_pure, Result.andThen_ok, run_loadVar_mid w b o 47 cs _ hr Tryd.underlying47 rfl (by rw [size53, hl]), secV_eq hl hr, Oper.upon]
/-- A write built out of its place and its sector, as one step. -/
def bldV (v y : Value) : List Value := v :: y.cells.toList
def OkB (v y : Value) : Prop := ∃ (n : Nat) (s : Bytes), v = .int .i64 n ∧ y = .agg (cb s).toArray ∧ s.length = 64
theorem wp_build58 {d : Option Tmp} {x y : Operand} {ty : TypeId} {ps : String} {af : Array Edge} {g : Option (Nat × Bool)} {a : Act} {w : World} {K : Act → World → Prop} {Q : Exit → Act → World → Prop} (h : OkB (a.eval x) (a.eval y)) :
    Oper.wp Tryd.prog { dst := d, op := .build 53 #[(0, x), (1, y)], type := ty, pos := ps, after := af, guard := g } a w K Q = K (a.put d (.agg (bldV (a.eval x) (a.eval y)).toArray)) w := by
  obtain ⟨n, s, hx, hy, hs⟩ := h
  have hb := build58 (n : Int) n s hs rfl w
  unfold Oper.wp execOp
  simp only [List.map_toArray, List.map_cons, List.map_nil, hx, hy, Sem.run_bind, hb, Sem.run_pure, Result.andThen_ok, Oper.upon]
  simp only [bldV, Value.cells, wrCells]
/-- A slice of that one write, as one step. -/
def celV (v : Value) : Array Value := v.cells
def OkS (v : Value) : Prop := ∃ e : Wr, e.2.length = 64 ∧ v = .agg (wrCells e).toArray
theorem wp_bs54 {d : Option Tmp} {x : Operand} {ty : TypeId} {ps : String} {af : Array Edge} {g : Option (Nat × Bool)} {a : Act} {w : World} {K : Act → World → Prop} {Q : Exit → Act → World → Prop} (h : OkS (a.eval x)) :
    Oper.wp Tryd.prog { dst := d, op := .buildSlice 48 1 #[(0, x)], type := ty, pos := ps, after := af, guard := g } a w K Q = K (a.put d (.slice (some ⟨w.heap.size, 0, none⟩) 1 1)) (w.alloc (.cells (celV (a.eval x)) 53)) := by
  obtain ⟨e, he, hx⟩ := h
  have hb := buildSlice54 e he w
  unfold Oper.wp execOp
  simp only [List.map_toArray, List.map_cons, List.map_nil, hx, Sem.run_bind, hb, Sem.run_pure, Result.andThen_ok, Oper.upon]
  simp only [celV, Value.cells]
attribute [local go_sem ↓] Go.wp_at_zero Go.wp_at_succ wp_load53 wp_build58 wp_bs54

theorem zero53 : ∀ w : World, (zeroValue 47).run Tryd.prog w = .ok (.agg (List.replicate 64 z8).toArray) w := (zero_of_info (n := 64) (by kernel_rfl)).1

/-- Behind k rounds of Write's loop. -/
def WRun (w1 wr : World) (F : Nat → Prop) (p : Nat) (d : Dsk) (a : Nat) (xs : Bytes) (k : Nat) (Ad As : Option Addr) (cd cs : Nat) : Prop :=
  ∃ Ar cr, DiskIn wr p { d with row := d.row ++ chunks a xs k } (look d.dur (d.row ++ chunks a xs k)) Ad As Ar cd cs cr ∧ (∀ k, Foot p Ad As Ar k → F k) ∧ Only F w1 wr

set_option maxRecDepth 100000 in
set_option maxHeartbeats 3200000 in
theorem Write_c (w : World) (F : Nat → Prop) (hF : ∀ k, w.heap.size ≤ k → F k) (p : Nat) (d : Dsk) (h : Holds w F p d) (ho : d.ops < 4611686018427387904) (at_ : Int) (ha : -9223372036854775808 ≤ at_) (ha' : at_ ≤ 9223372036854775807)
    (A : Option Addr) (n c : Nat) (xs : Bytes) (hs : Src w F A n (cb xs)) (hc : n ≤ c) (hm : c ≤ maxLen) (hr : d.row.length ≤ 4294967296) :
    Calls Tryd.prog 14 #[.pointer (some ⟨p, 0, none⟩), .int .i64 at_, .slice A n c] w fun e w' => e = .returned (.int .i64 (d.write at_ xs).2) ∧ Holds w' F p (d.write at_ xs).1 ∧ Only F w w' := by
  have hxl : xs.length = n := by have := hs.1; rwa [cb_length] at this
  have hn : (d.n : Int) ≤ 65536 := by have := h.1.nl; have := h.1.lim; omega
  have Hh := Lib.hid h
  obtain ⟨hw, Ad, As, Ar, cd, cs, cr, hd, hf⟩ := h
  have c7 : w.cell? ⟨p, 7, none⟩ = some (.bool d.down) := hd.blk.cell 7
  have hm2 : (n : Int) ≤ 9223372036854775807 := by simp only [maxLen] at hm; omega
  by_cases hdn : d.down = true
  · have E : Hid (d.write at_ xs = (d, 10)) := by show _ = _; simp [Dsk.write, hdn]
    rw [hdn] at c7
    clear hdn hw hd hf hs hm
    go_enter Tryd.func14, Tryd.ntmps14
    go_wp2
    go_ret
    rw [E.out]
    exact ⟨rfl, Hh.out, Only.refl _ _⟩
  · have hdn' : d.down = false := by simpa using hdn
    rw [hdn'] at c7
    clear hdn
    by_cases hb : n = 0 ∨ n % 64 ≠ 0
    · have E : Hid (d.write at_ xs = (d, 1)) := by
        show _ = _
        rw [Dsk.write, if_neg (by rw [hdn']; decide), hxl, if_pos hb]
      clear hdn' hw hd hf hs hm hxl
      rcases Nat.eq_zero_or_pos n with h0 | h0
      · subst h0
        clear hb
        go_enter Tryd.func14, Tryd.ntmps14
        go_wp2
        go_ret
        rw [E.out]
        exact ⟨rfl, Hh.out, Only.refl _ _⟩
      · have hb' : n % 64 ≠ 0 := by omega
        have t1 : ((n : Int) == 0) = false := by rw [beq_eq_false_iff_ne]; omega
        have t2 : ((n : Int) % 64 != 0) = true := by rw [bne_iff_ne]; omega
        clear hb hb'
        go_enter Tryd.func14, Tryd.ntmps14
        go_wp2
        go_ret
        rw [E.out]
        exact ⟨rfl, Hh.out, Only.refl _ _⟩
    · have h0 : 0 < n := by omega
      have hmod : n % 64 = 0 := by omega
      have t1 : ((n : Int) == 0) = false := by rw [beq_eq_false_iff_ne]; omega
      have t2 : ((n : Int) % 64 != 0) = false := by rw [bne_eq_false_iff_eq]; omega
      have hhc := has_c w F p d Hh.out at_ ((n : Int) / 64) ha ha'
      by_cases hh : d.has at_ ((n : Int) / 64) = false
      · have E : Hid (d.write at_ xs = (d, 11)) := by
          show _ = _
          rw [Dsk.write, if_neg (by rw [hdn']; decide), hxl, if_neg hb, if_pos (by rw [show ((n / 64 : Nat) : Int) = (n : Int) / 64 by omega]; exact hh)]
        rw [hh] at hhc
        have Hc := Lib.hid hhc
        clear hdn' hw hd hf hs hm hxl hb hmod hh hhc
        go_enter Tryd.func14, Tryd.ntmps14
        go_wp2_with (go_at_call 33; refine Hc.out.mono ?_; rintro e w' ⟨rfl, rfl⟩)
        go_ret
        rw [E.out]
        exact ⟨rfl, Hh.out, Only.refl _ _⟩
      · have hh' : d.has at_ ((n : Int) / 64) = true := by simpa using hh
        rw [hh'] at hhc
        have Hc := Lib.hid hhc
        have hat : 0 ≤ at_ ∧ (n : Int) / 64 ≤ d.n - at_ := by
          unfold Dsk.has at hh'
          simp at hh'
          omega
        obtain ⟨a, rfl⟩ : ∃ a : Nat, at_ = (a : Int) := ⟨at_.toNat, by omega⟩
        obtain ⟨M, hM⟩ : ∃ M, M = n / 64 := ⟨_, rfl⟩
        have hMn : n = M * 64 := by omega
        have haM : a + M ≤ d.n := by omega
        have E : Hid (d.write (a : Int) xs = Dsk.op { d with row := d.row ++ chunks a xs M }) := by
          show _ = _
          rw [Dsk.write, if_neg (by rw [hdn']; decide), hxl, if_neg hb, if_neg (by rw [show ((n / 64 : Nat) : Int) = (n : Int) / 64 by omega, hh']; decide), hM]
          rfl
        have Hs : Hid (Src w (w.heap.size ≤ ·) A n (cb xs)) := by
          refine ⟨hs.1, fun h0 => ?_⟩
          obtain ⟨ad, h1, h2, h3⟩ := hs.2 h0
          exact ⟨ad, h1, fun hge => h2 (hF _ hge), h3⟩
        have Hm := Lib.hid (And.intro hm (And.intro hM (And.intro hMn haM)))
        have Hx := Lib.hid hxl
        have HD := Lib.hid hd
        have HFT := Lib.hid hf
        have HW := Lib.hid hw
        have HF := Lib.hid hF
        have hnb : n ≤ 4294967296 := by omega
        clear hdn' hw hd hf hs hm hxl hb hmod hh hhc hh' hM hMn hat
        go_enter Tryd.func14, Tryd.ntmps14
        go_wp2_with (first | (go_at_call 33; refine Hc.out.mono ?_; rintro e w' ⟨rfl, rfl⟩) | (go_at_call 22; refine (sectorsOf_x _ A n c xs Hs.out hc hnb Hm.out.1).mono ?_; rintro e w1 ⟨M', X, rfl, H1⟩))
        have HJ : Hid (M' = M ∧ Blk w1 w.heap.size 47 (cb xs) ∧ Only (w.heap.size ≤ ·) w w1) := by
          obtain ⟨e1, e2, e3, e4⟩ := H1.out
          have hxl := Hx.out
          have hMn := Hm.out.2.2.1
          refine ⟨by omega, ?_, e4⟩
          have : X = xs := by rw [e1, pad, show (xs.length + 63) / 64 * 64 - xs.length = 0 by omega]; simp
          rw [this] at e3
          exact e3
        obtain rfl : M' = M := HJ.out.1
        clear H1
        have HO1 := Lib.hid HJ.out.2.2
        have HB1 := Lib.hid HJ.out.2.1
        have hs1 : w.heap.size < w1.heap.size := HB1.out.lt
        have HG : Hid (∀ k, w1.heap.size ≤ k → F k ∧ k ≠ w.heap.size) := fun k hk => ⟨HF.out k (by omega), by omega⟩
        clear HJ
        go_loopw [32] (fun i wr => ∃ k : Nat, k ≤ M' ∧ i = .int .i64 k ∧ WRun w1 wr (fun k => F k ∧ k ≠ w.heap.size) p d a xs k Ad As cd cs) (fun i _ => M' - (intOf i).toNat)
        case atStart =>
          refine ⟨0, Nat.zero_le _, rfl, Ar, cr, ?_, fun k hk => ⟨HFT.out k hk, ?_⟩, Only.refl _ _⟩
          · have := HD.out.only HO1.out (fun k hk => by have := HD.out.lt k hk; show ¬ w.heap.size ≤ k; omega)
            simpa [chunks, Dsk.see] using this
          · have := HD.out.lt k hk; omega
        case round =>
          obtain ⟨k, hk, rfl, Ar', cr', hd1, hf1, ho1⟩ := hrel
          have HD1 := Lib.hid hd1
          have HF1 := Lib.hid hf1
          have HO := Lib.hid ho1
          have hMb : (M' : Int) ≤ 65536 := by have := Hm.out.2.2.2; omega
          clear hd1 hf1 ho1
          by_cases hlt : k < M'
          · obtain ⟨s, hs⟩ : ∃ s, s = (xs.drop (k * 64)).take 64 := ⟨_, rfl⟩
            have hsl : s.length = 64 := by
              have := Hm.out.2.2.1
              have := Hx.out
              rw [hs]; simp; omega
            have hB : Blk wr w.heap.size 47 (cb xs) := HB1.out.only HO.out (by simp)
            have hrange : wr.rangeAt w.heap.size (k * 64) (cb s) := by
              have := hB.range (k * 64) 64
              rw [← cb_drop, ← cb_take, ← hs] at this
              exact this
            have hYl : (look d.dur (d.row ++ chunks a xs k)).length = d.n * 64 := by
              have := Hm.out.2.2
              have := Hx.out
              exact look_length _ _ (HW.out.fits.append (chunks_fits (by omega) (by omega))) HW.out.len
            obtain ⟨gs, rfl, hgs, hgsp, hthere⟩ := seen_at (d := { d with row := d.row ++ chunks a xs k }) (a := a + k) HD1.out hYl (by have := Hm.out.2.2.2; show a + k < d.n; omega)
            have HY0 := Lib.hid hYl
            have Hgs := Lib.hid (And.intro hgs (And.intro hgsp hthere))
            have Hrange := Lib.hid hrange
            have Hs := Lib.hid hs
            have Hsl := Lib.hid hsl
            have hk0 : (0 : Int) ≤ (k : Int) := Int.natCast_nonneg _
            have hk1 : (k : Int) < (M' : Int) := by omega
            have ha0 : (0 : Int) ≤ (a : Int) := Int.natCast_nonneg _
            have hak : (a : Int) + (k : Int) < (d.n : Int) := by have := Hm.out.2.2.2; omega
            have hz := zero53
            have Hsz : Hid ((Tryd.prog.info? 47).map (·.size) = some (cb s).length ∧ (Tryd.prog.info? 47).map (·.size) = some (cb s).toArray.size ∧ (List.replicate 64 z8).toArray.size = (cb s).toArray.size ∧ (cb s).toArray.all (·.oneCell') = true) := by
              refine ⟨by rw [size53, cb_length, hsl], by rw [size53, List.size_toArray, cb_length, hsl], by rw [List.size_toArray, List.size_toArray, cb_length, hsl]; simp, all_oneCell_toArray (cb_one s)⟩
            clear hs hsl hrange hB hYl hgs hgsp hthere
            go_wp2_with (first | (refine wpList_load_mid rfl 47 (.tmp 35) rfl w.heap.size (k * 64) (by simp [Act.eval]) (cb s) _ Hrange.out Tryd.underlying47 rfl Hsz.out.1 ?_) | (refine wpList_store_row rfl 47 (.tmp 8) (.tmp 36) rfl wr.heap.size (cb s).toArray (by simp [Act.eval]) (by simp [Act.eval]) 47 (List.replicate 64 z8).toArray (heap_alloc_last wr _) Hsz.out.2.1 Hsz.out.2.2.1 Hsz.out.2.2.2 ?_; rw [World.setRow_alloc_new]))
            go_simp
            obtain ⟨D1, hD1⟩ : ∃ D1 : Dsk, D1 = { d with row := d.row ++ chunks a xs k } := ⟨_, rfl⟩
            have HD1' : Hid (DiskIn wr p D1 (look d.dur (d.row ++ chunks a xs k)) Ad (some ⟨gs, 0, none⟩) Ar' cd cs cr') := by rw [hD1]; exact HD1
            have c3 : wr.cell? ⟨p, 3, none⟩ = some (.slice Ar' D1.row.length cr') := HD1'.out.blk.cell 3
            have hplt : p < wr.heap.size := HD1'.out.blk.lt
            have HDD := Lib.hid hD1
            have Hrl : Hid (D1.row.length + 1 ≤ maxLen ∧ (D1.row.length + 1) * 72 ≤ 140737488355328) := by
              have e : D1.row.length = d.row.length + k := by rw [hD1]; simp [chunks_length]
              have := Hm.out.2.2.2
              have h3 : M' ≤ 65536 := by omega
              exact ⟨by simp only [maxLen]; omega, by omega⟩
            clear hD1 HD1
            obtain ⟨i0, hi0, hz0, hz1, hz2⟩ := info_parts info58
            have Hi := Lib.hid (And.intro hi0 (And.intro hz0 (And.intro hz1 hz2)))
            clear hi0 hz0 hz1 hz2
            have f3 : OkB (.int .i64 ((a : Int) + (k : Int))) (.agg (cb s).toArray) := ⟨a + k, s, by rw [Int.natCast_add], rfl, Hsl.out⟩
            have f4 : bldV (.int .i64 ((a : Int) + (k : Int))) (.agg (cb s).toArray) = wrCells (a + k, s) := by simp [bldV, Value.cells, wrCells]
            have f5 : OkS (.agg (wrCells (a + k, s)).toArray) := ⟨(a + k, s), Hsl.out, rfl⟩
            have f6 : celV (.agg (wrCells (a + k, s)).toArray) = (wrCells (a + k, s)).toArray := rfl
            have hB0 : Blk (wr.alloc (.cells (cb s).toArray 47)) wr.heap.size 47 (cb s) := Blk.new wr 47 _
            have hra : ∀ W, Blk W wr.heap.size 47 (cb s) → W.rangeAt wr.heap.size 0 (cb s) := fun W hb j v hv => by rw [hb.cell, Nat.zero_add]; exact hv
            have hcl : (cb s).length = 64 := by rw [cb_length, Hsl.out]
            have hwak : IntKind.i64.wrap ((a : Int) + (k : Int)) = (a : Int) + (k : Int) := IntWalk.i64_in _ (by omega)
            have f1 : FullV (wr.alloc (.cells (cb s).toArray 47)).drew (.pointer (some ⟨wr.heap.size, 0, none⟩)) := ⟨_, _, _, rfl, hcl, hra _ hB0.drew⟩
            have f2 : secV (wr.alloc (.cells (cb s).toArray 47)).drew (.pointer (some ⟨wr.heap.size, 0, none⟩)) = cb s := secV_eq hcl (hra _ hB0.drew)
            have HB0 := Lib.hid hB0
            clear hra hB0 hcl
            have HW2 : Hid (((wr.alloc (.cells (cb s).toArray 47)).alloc (.cells (wrCells (a + k, s)).toArray 53)).drew.ownsRow 0 53 65 (.slice Ar' D1.row.length cr') D1.row.length (rowCells D1.row)) := (HD1'.out.row.alloc _).alloc _
            have Hnews : Hid (∀ j u, (wrCells (a + k, s))[j]? = some u → ((wr.alloc (.cells (cb s).toArray 47)).alloc (.cells (wrCells (a + k, s)).toArray 53)).drew.cell? ((⟨wr.heap.size + 1, 0, none⟩ : Addr).add j) = some u) := by
              intro j u hu
              have hb : Blk ((wr.alloc (.cells (cb s).toArray 47)).alloc (.cells (wrCells (a + k, s)).toArray 53)).drew (wr.heap.size + 1) 53 (wrCells (a + k, s)) := by
                have := Blk.new (wr.alloc (.cells (cb s).toArray 47)) 53 (wrCells (a + k, s))
                simpa using this.drew
              rw [Addr.add_mid, hb.cell, Nat.zero_add]
              exact hu
            have Hwl : Hid ((wrCells (a + k, s)).length = 1 * 65) := wrCells_length Hsl.out
            have Hone : Hid (∀ u ∈ wrCells (a + k, s), u.oneCell' = true) := wrCells_one _
            have HW2s : Hid (wr.heap.size ≤ ((wr.alloc (.cells (cb s).toArray 47)).alloc (.cells (wrCells (a + k, s)).toArray 53)).drew.heap.size ∧ ∀ j, j < wr.heap.size → ((wr.alloc (.cells (cb s).toArray 47)).alloc (.cells (wrCells (a + k, s)).toArray 53)).drew.heap[j]? = wr.heap[j]?) := by
              refine ⟨by simp; omega, fun j hj => ?_⟩
              exact (Below.heap_alloc _ _ j (by simp; omega)).trans (Below.heap_alloc wr _ j hj)
            go_region_law (refine step_append_lies ((wr.alloc (.cells (cb s).toArray 47)).alloc (.cells (wrCells (a + k, s)).toArray 53)).drew rfl (.tmp 41) (.tmp 47) 48 rfl 0 53 i0 _ 65 72 Tryd.underlying48 Hi.out.1 Hi.out.2.1 Hi.out.2.2.1 Hi.out.2.2.2 (by rfl) (by omega) (.slice Ar' D1.row.length cr') D1.row.length (rowCells D1.row) (by simp [Act.eval]) HW2.out ⟨wr.heap.size + 1, 0, none⟩ 1 1 (wrCells (a + k, s)) (by simp [Act.eval]) Hwl.out Hnews.out Hone.out (by omega) Hrl.out.1 Hrl.out.2 (Nat.zero_le _) _ rfl ?_; intro g cap w3 ho3 hg3 hat3 hlt3; have J := Lib.hid (HD1'.out.addRow (e := (a + k, s)) HW2s.out.1 HW2s.out.2 ho3 hg3 hat3); have r3 := J.out.2.2.1; have rf := J.out.2.2.2.1; have HG3 := Lib.hid hg3; clear ho3 hg3 hat3 hlt3)
            all_goals
              clear f1 f2 f3 f4 f5 f6
              obtain ⟨w4, hw4⟩ : ∃ w4, w4 = w3.setCell ⟨p, 3, none⟩ (.slice (some ⟨g, 0, none⟩) (D1.row.length + 1) cap) := ⟨_, rfl⟩
              have HD4 : Hid (DiskIn w4 p { D1 with row := D1.row ++ [(a + k, s)] } (look d.dur (d.row ++ chunks a xs k)) Ad (some ⟨gs, 0, none⟩) (some ⟨g, 0, none⟩) cd cs cap) := by rw [hw4]; exact J.out.1
              have HB4 : Hid (Blk w4 wr.heap.size 47 (cb s)) := by
                have h0 : Blk ((wr.alloc (.cells (cb s).toArray 47)).alloc (.cells (wrCells (a + k, s)).toArray 53)).drew wr.heap.size 47 (cb s) := (HB0.out.alloc _).drew
                have h1 : Blk w3 wr.heap.size 47 (cb s) := (HG3.out.block _ h0.lt (fun e => by
                  cases Ar' with
                  | none => simp [Value.ownBlock] at e
                  | some a' =>
                    simp [Value.ownBlock] at e
                    have := HD1'.out.lt a'.block (.inr (.inr (.inr ⟨a', rfl, rfl⟩)))
                    omega)).trans h0
                rw [hw4]
                exact h1.far (p := ⟨p, 3, none⟩) (show wr.heap.size ≠ p by omega) _
              have HO4 : Hid (Only (fun k => F k ∧ k ≠ w.heap.size) w1 w4 ∧ ∀ j, Foot p Ad (some ⟨gs, 0, none⟩) (some ⟨g, 0, none⟩) j → F j ∧ j ≠ w.heap.size) := by
                have hsz := HO.out.size
                have hp := HF1.out p (.inl rfl)
                have h0 : Only (fun k => F k ∧ k ≠ w.heap.size) w1 ((wr.alloc (.cells (cb s).toArray 47)).alloc (.cells (wrCells (a + k, s)).toArray 53)).drew := ((HO.out.alloc HG.out _).alloc HG.out _).drew
                have h1 : Only (fun k => F k ∧ k ≠ w.heap.size) w1 w3 := h0.grown HG3.out HG.out (fun g' hg' => by
                  cases Ar' with
                  | none => simp [Value.ownBlock] at hg'
                  | some a' =>
                    simp [Value.ownBlock] at hg'
                    exact HF1.out g' (.inr (.inr (.inr ⟨a', rfl, hg'⟩))))
                refine ⟨by rw [hw4]; exact h1.setCell (p := ⟨p, 3, none⟩) hp _, fun j hj => ?_⟩
                rcases J.out.2.1 j hj with h2 | h2
                · exact HF1.out j h2
                · exact HG.out j (by simp at h2; omega)
              have Hlt4 : Hid (gs ≠ p ∧ gs ≠ wr.heap.size ∧ w4.there gs ((a + k) * 64) 64) := by
                obtain ⟨g', e1, e2, e3, e4⟩ := seen_at (d := { D1 with row := D1.row ++ [(a + k, s)] }) (a := a + k) HD4.out (by rw [HY0.out, HDD.out]) (by have := Hm.out.2.2.2; show a + k < D1.n; rw [HDD.out]; show a + k < d.n; omega)
                cases e1
                exact ⟨e3, by have := Hgs.out.1; omega, e4⟩
              have HW4 := Lib.hid hw4
              rw [← hw4]
              clear hw4 r3 rf
              have hu := Tryd.underlying47
              have hi : (Tryd.prog.info? 47).map (·.size) = some (cb s).length := Hsz.out.1
              have hl64 : (cb s).length = 64 := by rw [cb_length, Hsl.out]
              have h1c := cb_one s
              have hak0 : (0 : Int) ≤ (a : Int) + (k : Int) := by omega
              have k2 : w4.cell? ⟨p, 2, none⟩ = some (.slice (some ⟨gs, 0, none⟩) d.n cs) := by
                have := HD4.out.blk.cell 2
                rw [HDD.out] at this
                exact this
              have HK2 := Lib.hid k2
              have HR4 : Hid (w4.rangeAt wr.heap.size 0 (cb s)) := fun j v hv => by rw [HB4.out.cell, Nat.zero_add]; exact hv
              have HT4 : Hid (w4.there gs ((a + k) * 64) 64) := Hlt4.out.2.2
              have HS1 : Hid (w4.drew.cell? ⟨p, 2, none⟩ = some (.slice (some ⟨gs, 0, none⟩) d.n cs) ∧ w4.drew.rangeAt wr.heap.size 0 (cb s) ∧ w4.drew.there gs ((a + k) * 64) 64) := ⟨HK2.out, HR4.out, HT4.out⟩
              have HS2 : Hid ((w4.drew.setCells gs ((a + k) * 64) (cb s)).cell? ⟨p, 2, none⟩ = some (.slice (some ⟨gs, 0, none⟩) d.n cs) ∧ (w4.drew.setCells gs ((a + k) * 64) (cb s)).rangeAt wr.heap.size 0 (cb s) ∧ (w4.drew.setCells gs ((a + k) * 64) (cb s)).there gs ((a + k) * 64) 64) := by
                refine ⟨?_, World.rangeAt_setCells_apart HS1.out.2.1 _ _ _ (.inl (Ne.symm Hlt4.out.2.1)), World.there_setCells HS1.out.2.2 _ _ _⟩
                rw [World.cell?_setCells_out gs (cb s) _ _ ⟨p, 2, none⟩ (fun e _ => absurd e (Ne.symm Hlt4.out.1))]
                exact HS1.out.1
              clear k2
              go_wp2
              go_region_held3 (fun w' => w'.cell? ⟨p, 2, none⟩ = some (.slice (some ⟨gs, 0, none⟩) d.n cs) ∧ w'.rangeAt wr.heap.size 0 (cb s) ∧ w'.there gs ((a + k) * 64) 64) (first | exact HS1.out | exact HS2.out) (fail)
              have HN : Hid (WRun w1 (w4.drew.setCells gs ((a + k) * 64) (cb s)) (fun k => F k ∧ k ≠ w.heap.size) p d a xs (k + 1) Ad (some ⟨gs, 0, none⟩) cd cs) := by
                have hp := HD4.out.drew.putSeen (a := a + k) (x := s) (by rw [HY0.out, HDD.out]) (by have := Hm.out.2.2.2; show a + k < D1.n; rw [HDD.out]; show a + k < d.n; omega) Hsl.out rfl
                have e1 : d.row ++ chunks a xs (k + 1) = D1.row ++ [(a + k, s)] := by
                  rw [chunks_succ, HDD.out, Hs.out, List.append_assoc]
                have e2 : look d.dur (d.row ++ chunks a xs (k + 1)) = over (look d.dur (d.row ++ chunks a xs k)) ((a + k) * 64) s := by
                  rw [chunks_succ, ← List.append_assoc, look_append, Hs.out]
                  rfl
                refine ⟨some ⟨g, 0, none⟩, cap, ?_, HO4.out.2, (HO4.out.1.drew).setCells gs _ _ (HO4.out.2 gs (.inr (.inr (.inl ⟨_, rfl, rfl⟩))))⟩
                rw [e2, e1]
                have e3 : { D1 with row := D1.row ++ [(a + k, s)] } = { d with row := D1.row ++ [(a + k, s)] } := by rw [HDD.out]
                rw [← e3]
                exact hp
              clear HS1 HS2 hu hi hl64 h1c hwak
              go_wp2
              go_roundw
              case rel => exact ⟨k + 1, by omega, by go_num, HN.out⟩
              case measure => simp [intOf]; omega
          · have hkm : ¬ (k : Int) < (M' : Int) := by omega
            have HJ : Hid (Holds wr (fun k => F k ∧ k ≠ w.heap.size) p { d with row := d.row ++ chunks a xs M' } ∧ Only F w wr) := by
              obtain rfl : k = M' := by omega
              have hwf := HW.out
              have hh := Hm.out.2.2
              have := Hx.out
              refine ⟨⟨⟨hwf.nl, hwf.lim, hwf.len, hwf.fits.append (chunks_fits (by omega) (by omega)), hwf.left⟩, Ad, As, Ar', cd, cs, cr', HD1.out, HF1.out⟩, ?_⟩
              exact (HO1.out.mono HF.out).trans (HO.out.mono fun j hj => hj.1)
            go_wp2_with (go_at_call 34; refine (op_c _ _ p _ HJ.out.1 ho).mono ?_; rintro e w5 ⟨rfl, hh5, ho5⟩; have H5 := Lib.hid (And.intro hh5 ho5); clear hh5 ho5)
            go_ret
            rw [E.out]
            exact ⟨rfl, H5.out.1.mono (fun j _ hj => hj.1), HJ.out.2.trans (H5.out.2.mono fun j hj => hj.1)⟩
end Go.Proofs.YtdgcplmekkancaaDoor
