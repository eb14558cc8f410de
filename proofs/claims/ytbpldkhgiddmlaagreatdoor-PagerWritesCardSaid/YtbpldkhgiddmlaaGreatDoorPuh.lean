/-
  The document's write.
-/
import Derived.Test.YtbpldkhgiddmlaaGreatDoorPug
import Derived.Test.YtbpldkhgiddmlaaGreatDoorPud
import Derived.RegionTactic
import Derived.BigRegion
import Derived.Maps.AppendAt
import Derived.Lib.OwnKind
set_option linter.unusedVariables false
namespace Go.Proofs.YtbpldkhgiddmlaaGreatDoor
open Go.RowKit

section
variable {P : Program} {w : World}
theorem k_wp_append_at {o : Oper} {a : Act} {K : Act → World → Prop} {Q : Exit → Act → World → Prop} (s x : Operand) (t : TypeId)
    (ho : o.op = .call { callee := .builtin .append, args := #[s, x], argTypes := #[t, t] })
    (base : Nat) (e : TypeId) (i : TypeInfo) (z : Value) (size bytes : Nat) (ht : P.underlying t = some (.slice e)) (hi : P.info? e = some i) (hz : i.zero = some z)
    (hsize : i.size = size) (hby : i.bytes = bytes) (hzs : z.cells.size = size) (hsz : 0 < size)
    (v : Value) (n : Nat) (xs : List Value) (hs : a.eval s = v) (hown : w.ownsRow base e size v n xs)
    (ad : Addr) (m c : Nat) (news : List Value) (hx : a.eval x = .slice (some ad) m c) (hl : news.length = m * size) (hnews : ∀ j u, news[j]? = some u → w.cell? (ad.add j) = some u) (h1 : ∀ u ∈ news, u.oneCell' = true)
    (h63 : n + m ≤ maxLen) (hbytes : (n + m) * bytes ≤ 140737488355328) (hbase : base ≤ w.heap.size)
    (h : ∀ v' w', w'.ownsRow base e size v' (n + m) (xs ++ news) → w.grownBy w' v.ownBlock → (v'.ownBlock = v.ownBlock ∨ v'.ownBlock = some w.heap.size) → K (a.put o.dst v') w') : o.wp P a w K Q := by
  obtain ⟨v', w', hr, h2, h3, h4, h5⟩ := run_append_own_at (P := P) w base t o.type e i z size bytes ht hi hz hsize hby hzs hsz v n xs hown ad m c news hl hnews h1 h63 hbytes hbase
  unfold Oper.wp execOp
  simp only [ho, resolve, invoke, builtin, Sem.run_bind, Sem.run_pure, Result.andThen_ok, List.map_toArray, List.map_cons, List.map_nil, hs, hx, hr]
  exact h v' w' h2 h3 h5
theorem k_wp_append_none {o : Oper} {a : Act} {K : Act → World → Prop} {Q : Exit → Act → World → Prop} (s x : Operand) (t : TypeId)
    (ho : o.op = .call { callee := .builtin .append, args := #[s, x], argTypes := #[t, t] })
    (base : Nat) (e : TypeId) (i : TypeInfo) (size : Nat) (ht : P.underlying t = some (.slice e)) (hi : P.info? e = some i)
    (v : Value) (n : Nat) (xs : List Value) (hs : a.eval s = v) (hown : w.ownsRow base e size v n xs) (hx : a.eval x = .slice none 0 0)
    (h : K (a.put o.dst v) w) : o.wp P a w K Q := by
  have hrun := run_append_owned_none (P := P) (w := w) base t o.type e i size ht hi v n xs hown
  unfold Oper.wp
  simp [execOp, ho, resolve, invoke, builtin, hs, hx, hrun, Result.andThen]
  exact h
theorem k_wp_append_row {o : Oper} {a : Act} {K : Act → World → Prop} {Q : Exit → Act → World → Prop} (s x : Operand) (t : TypeId)
    (ho : o.op = .call { callee := .builtin .append, args := #[s, x], argTypes := #[t, t] })
    (base : Nat) (e : TypeId) (i : TypeInfo) (z : Value) (size bytes : Nat) (ht : P.underlying t = some (.slice e)) (hi : P.info? e = some i) (hz : i.zero = some z)
    (hsize : i.size = size) (hby : i.bytes = bytes) (hzs : z.cells.size = size) (hsz : 0 < size)
    (v : Value) (n : Nat) (xs : List Value) (hs : a.eval s = v) (hown : w.ownsRow base e size v n xs)
    (A : Option Addr) (m c : Nat) (news : List Value) (hx : a.eval x = .slice A m c) (hA : A = none → m = 0 ∧ c = 0) (hl : news.length = m * size) (hnews : ∀ ad, A = some ad → ∀ j u, news[j]? = some u → w.cell? (ad.add j) = some u) (h1 : ∀ u ∈ news, u.oneCell' = true)
    (h63 : n + m ≤ maxLen) (hbytes : (n + m) * bytes ≤ 140737488355328) (hbase : base ≤ w.heap.size)
    (h : ∀ v' w', w'.ownsRow base e size v' (n + m) (xs ++ news) → w.grownBy w' v.ownBlock → (v'.ownBlock = v.ownBlock ∨ v'.ownBlock = some w.heap.size) → K (a.put o.dst v') w') : o.wp P a w K Q := by
  cases A with
  | some ad => exact k_wp_append_at s x t ho base e i z size bytes ht hi hz hsize hby hzs hsz v n xs hs hown ad m c news hx hl (hnews ad rfl) h1 h63 hbytes hbase h
  | none =>
    obtain ⟨rfl, rfl⟩ := hA rfl
    obtain rfl : news = [] := List.eq_nil_of_length_eq_zero (by omega)
    refine k_wp_append_none s x t ho base e i size ht hi v n xs hs hown hx (h v w (by rw [List.append_nil]; exact hown) ⟨rfl, rfl, rfl, Nat.le_refl _, fun _ _ _ => rfl⟩ (.inl rfl))
end
theorem k_own_none (w : World) (t : TypeId) (z : Nat) : (w.alloc (.cells #[] t)).ownsRow w.heap.size t z (.slice (some ⟨w.heap.size, 0, none⟩) 0 0) 0 [] :=
  ⟨by simp, .inr ⟨w.heap.size, 0, #[], rfl, Nat.le_refl _, heap_alloc_new w _, Nat.le_refl _, by decide, by simp, by simp⟩⟩

section
variable {P : Program} {w : World}
theorem k_wpList_append_row {ops : Array Oper} {rest : List Oper} {o : Oper} {a : Act} {Q : Exit → Act → World → Prop} (hgd : o.guard = none) (s x : Operand) (t : TypeId)
    (ho : o.op = .call { callee := .builtin .append, args := #[s, x], argTypes := #[t, t] })
    (base : Nat) (e : TypeId) (i : TypeInfo) (z : Value) (size bytes : Nat) (ht : P.underlying t = some (.slice e)) (hi : P.info? e = some i) (hz : i.zero = some z)
    (hsize : i.size = size) (hby : i.bytes = bytes) (hzs : z.cells.size = size) (hsz : 0 < size)
    (v : Value) (n : Nat) (xs : List Value) (hs : a.eval s = v) (hown : w.ownsRow base e size v n xs)
    (A : Option Addr) (m c : Nat) (news : List Value) (hx : a.eval x = .slice A m c) (hA : A = none → m = 0 ∧ c = 0) (hl : news.length = m * size) (hnews : ∀ ad, A = some ad → ∀ j u, news[j]? = some u → w.cell? (ad.add j) = some u) (h1 : ∀ u ∈ news, u.oneCell' = true)
    (h63 : n + m ≤ maxLen) (hbytes : (n + m) * bytes ≤ 140737488355328) (hbase : base ≤ w.heap.size)
    (h : ∀ v' w', w'.ownsRow base e size v' (n + m) (xs ++ news) → w.grownBy w' v.ownBlock → (v'.ownBlock = v.ownBlock ∨ v'.ownBlock = some w.heap.size) → wpList P ops Q rest (a.put o.dst v') w') : wpList P ops Q (o :: rest) a w :=
  wpList_plain hgd fun K hK => k_wp_append_row s x t ho base e i z size bytes ht hi hz hsize hby hzs hsz v n xs hs hown A m c news hx hA hl hnews h1 h63 hbytes hbase fun v' w' h2 h3 h5 => hK _ _ (h v' w' h2 h3 h5)
end
theorem k_grow_only {w w' : World} {o : Obj} {row : Option Nat} (h : (w.alloc o).grownBy w' row) : Only (fun k => row = some k ∨ w.heap.size ≤ k) w w' := ((Only.refl _ w).alloc (fun _ h => .inr h) o).grown h (fun _ h => .inr h) (fun _ e => .inl e)
theorem k_results_cell_tmp {fn : Func} {P : Program} {p t : Tmp} {ty : TypeId} {tmps : Array Value} {w : World} {a : Addr} {v : Value} (h : fn.results = #[.cell p ty, .tmp t]) (ha : tmps.getD p undef = .pointer (some a)) (hl : (loadVar ty a).run P w = .ok v w) :
    (results fn tmps).run P w = .ok (.tuple #[v, tmps.getD t undef]) w := by
  rw [Array.getD_eq_getD_getElem?] at ha
  simp only [results, h]
  simp [ha, asAddr, hl]
def zKW : Value := .agg #[.int .i64 0, .slice none 0 0]
theorem info_KW : (Tryz.prog.info? 87).map (fun i => (i.zero, i.size, i.bytes)) = some (some zKW, 2, 32) := by kernel_rfl
theorem wr_nums {lo k pn m a hi ak : Nat} (h1 : lo = k * 64) (hk : k < m) (h2 : pn = m * 64) (h3 : m ≤ 65536) (h4 : a + m ≤ 65536) (hhi : hi = lo + 64) (hak : ak = a + k) : (lo : Int) < (pn : Int) ∧ IntKind.i64.wrap ((lo : Int) + 64) = (hi : Int) ∧ Int.tdiv (lo : Int) 64 = (k : Nat) ∧ (lo : Int) / 64 = (k : Nat) ∧ IntKind.i64.wrap ((k : Nat) : Int) = (k : Nat) ∧ IntKind.i64.wrap ((a : Int) + (k : Int)) = (ak : Nat) := by
  refine ⟨by omega, ?_, ?_, by omega, IntWalk.i64_in _ (by omega), ?_⟩
  · rw [IntWalk.i64_in _ (by omega)]; omega
  · rw [Int.tdiv_eq_ediv_of_nonneg (Int.natCast_nonneg lo)]; omega
  · rw [IntWalk.i64_in _ (by omega)]; omega
theorem wr_lims {lo k pn m hi z rn pc : Nat} (h1 : lo = k * 64) (hk : k < m) (h2 : pn = m * 64) (hz : z = rn + k) (h3 : m ≤ 65536) (h4 : rn ≤ 100000) (hhi : hi = lo + 64) (hc : pn ≤ pc) : (lo < hi ∧ hi ≤ pn) ∧ (hi : Int) ≤ (pc : Int) ∧ hi ≤ pc ∧ (¬ pc = lo) ∧ (lo : Int) ≤ (hi : Int) ∧ lo ≤ hi ∧ (0 : Int) ≤ (lo : Int) ∧ z + 1 ≤ maxLen ∧ (z + 1) * 32 ≤ 140737488355328 := by
  simp only [maxLen]
  omega
def GaveWr (D : Nat → Prop) (w : World) (L : Int) (BA : Option Addr) (bn bc : Nat) (o2 f2 : Int) (dn : Bool) (l : List Dk.Wr) (y : Int) (e : Ending) (w' : World) : Prop := ∃ R z t, e = .returned (.tuple #[.agg #[.int .i64 L, .slice BA bn bc, .slice R z t, .int .i64 o2, .int .i64 f2, .bool dn], .int .i64 y]) ∧ z = l.length ∧ SRw kwE D w' (.slice R z t) l ∧ Only (w.heap.size ≤ ·) w w'
set_option maxRecDepth 100000 in
set_option maxHeartbeats 25600000 in
theorem kwrite_ok (D : Nat → Prop) (w : World) (hD : ∀ k, D k → k < w.heap.size) (L : Int) (BA : Option Addr) (bn bc : Nat) (RA : Option Addr) (rn rc : Nat) (ops fu : Int) (row : List Dk.Wr) (N : Nat) (hN : bn = N * 64) (hN2 : N ≤ 65536) (hr : SRw kwE D w (.slice RA rn rc) row) (hrn : rn ≤ 100000)
    (ho : 0 ≤ ops ∧ ops < 4611686018427387904) (hf : -1 ≤ fu ∧ fu ≤ 9223372036854775807) (k0 m0 : Int) (a m pb po pn pc : Nat) (xs : Bytes) (hp : Stab D w (fun W => Src W (.slice (some ⟨pb, po, none⟩) pn pc) xs)) (hpl : xs.length = pn) (hpn : pn = m * 64) (hm : 0 < m) (ha : a + m ≤ N)
    (o2 f2 : Int) (dn : Bool) (ho2 : o2 = ops + 1) (hf2 : f2 = if 0 ≤ fu then fu - 1 else fu) (hdn : dn = decide (fu = 0)) (y : Int) (hy : y = if dn = true then 10 else 0) :
    Calls Tryz.prog 41 #[.agg #[.int .i64 L, .slice BA bn bc, .slice RA rn rc, .int .i64 ops, .int .i64 fu, .bool false], .agg #[.int .i64 k0, .int .i64 (a : Nat), .int .i64 m0, .slice (some ⟨pb, po, none⟩) pn pc, .slice none 0 0]] w (GaveWr D w L BA bn bc o2 f2 dn (row ++ Dk.chunks a xs m) y) := by
  obtain ⟨i1, hi0, hz0, hz1, hz2⟩ := info_parts info_KW
  have HI1 := Lib.hid (And.intro hi0 (And.intro hz0 (And.intro hz1 hz2)))
  clear hi0 hz0 hz1 hz2
  obtain ⟨w1, hw1⟩ : ∃ W0, W0 = ((w.alloc (.cells #[.int .i64 L, .slice BA bn bc, .slice RA rn rc, .int .i64 ops, .int .i64 fu, .bool false] 34)).alloc (.cells #[.int .i64 k0, .int .i64 (a : Nat), .int .i64 m0, .slice (some ⟨pb, po, none⟩) pn pc, .slice none 0 0] 44)).alloc (.cells #[.int .i64 0, .slice none 0 0, .slice none 0 0, .int .i64 0, .int .i64 0, .bool false] 34) := ⟨_, rfl⟩
  have HO1 : Hid (Only (w.heap.size ≤ ·) w w1) := Lib.hid (by rw [hw1]; exact (((Only.refl _ w).alloc (fun _ h => h) _).alloc (fun _ h => h) _).alloc (fun _ h => h) _)
  have HD : Hid (Blk w1 w.heap.size 34 [.int .i64 L, .slice BA bn bc, .slice RA rn rc, .int .i64 ops, .int .i64 fu, .bool false]) := Lib.hid (by rw [hw1]; exact ((Blk.new w 34 [.int .i64 L, .slice BA bn bc, .slice RA rn rc, .int .i64 ops, .int .i64 fu, .bool false]).alloc _).alloc _)
  have HQ3 : Hid (Blk w1 (w.heap.size + 1) 44 [.int .i64 k0, .int .i64 (a : Nat), .int .i64 m0, .slice (some ⟨pb, po, none⟩) pn pc, .slice none 0 0]) := Lib.hid (by
    have h := (Blk.new (w.alloc (.cells #[.int .i64 L, .slice BA bn bc, .slice RA rn rc, .int .i64 ops, .int .i64 fu, .bool false] 34)) 44 [.int .i64 k0, .int .i64 (a : Nat), .int .i64 m0, .slice (some ⟨pb, po, none⟩) pn pc, .slice none 0 0]).alloc (.cells #[.int .i64 0, .slice none 0 0, .slice none 0 0, .int .i64 0, .int .i64 0, .bool false] 34)
    rw [← hw1] at h
    simpa using h)
  have HR : Hid (Blk w1 (w.heap.size + 1 + 1) 34 [.int .i64 0, .slice none 0 0, .slice none 0 0, .int .i64 0, .int .i64 0, .bool false]) := Lib.hid (by
    have h := Blk.new ((w.alloc (.cells #[.int .i64 L, .slice BA bn bc, .slice RA rn rc, .int .i64 ops, .int .i64 fu, .bool false] 34)).alloc (.cells #[.int .i64 k0, .int .i64 (a : Nat), .int .i64 m0, .slice (some ⟨pb, po, none⟩) pn pc, .slice none 0 0] 44)) 34 [.int .i64 0, .slice none 0 0, .slice none 0 0, .int .i64 0, .int .i64 0, .bool false]
    rw [← hw1] at h
    simpa using h)
  have HE1 := Lib.hid hw1
  have HC : Hid (∀ (W : World) (R : Option Addr) (z t : Nat), Calls Tryz.prog 42 #[.agg #[.int .i64 L, .slice BA bn bc, .slice R z t, .int .i64 ops, .int .i64 fu, .bool false]] W (Told W (.agg #[.int .i64 L, .slice BA bn bc, .slice R z t, .int .i64 o2, .int .i64 f2, .bool dn]))) := Lib.hid (fun W R z t => by
    have h := kcount_c W L BA bn bc R z t ops fu ho hf
    unfold kdv at h
    rw [← ho2, ← hf2, ← hdn] at h
    exact h)
  have hak : hasK N (a : Int) (m : Int) = true := by
    unfold hasK
    simp only [Bool.and_eq_true, decide_eq_true_eq]
    omega
  have HIS : Hid (∀ W, Calls Tryz.prog 39 #[.agg #[.int .i64 L, .slice BA bn bc, .slice RA rn rc, .int .i64 ops, .int .i64 fu, .bool false], .int .i64 (a : Nat), .int .i64 (m : Nat)] W (Told W (.bool true))) := Lib.hid (fun W => by
    have h := kis_c W L BA bn bc RA rn rc ops fu false N hN hN2 (a : Int) (m : Int) (by unfold I64v; omega)
    rwa [hak] at h)
  have hrl := hr.len
  obtain ⟨C0, hC⟩ := hr
  have H0 := Lib.hid hD
  have HDN : Hid (∀ W, Only (fun k => D k ∨ w.heap.size ≤ k) w W → Den (kwE.At W) row C0) := Lib.hid (fun W hW => (hC W hW).1)
  have HSR : Hid (∀ W, Only (fun k => D k ∨ w.heap.size ≤ k) w W → ∀ ad, RA = some ad → ∀ j u, C0[j]? = some u → W.cell? (ad.add j) = some u) := Lib.hid (fun W hW => by
    obtain ⟨A', c', e', _, hra, _⟩ := (hC W hW).2
    simp only [Value.slice.injEq] at e'
    obtain ⟨rfl, _, rfl⟩ := e'
    exact hra.src)
  have HCI : Hid (C0.length = rn * 2 ∧ (RA = none → rn = 0 ∧ rc = 0) ∧ ∀ u ∈ C0, u.oneCell' = true) := Lib.hid (by
    obtain ⟨A', c', e', h1, _, h3, h4, _, h5⟩ := (hC w (Only.refl _ w)).2
    simp only [Value.slice.injEq] at e'
    obtain ⟨rfl, _, rfl⟩ := e'
    exact ⟨by rw [h1, hrl]; rfl, fun e => ⟨by have := h3 e; omega, h3 e⟩, h5⟩)
  have HRL := Lib.hid hrl
  have HPS := Lib.hid hp
  have HPN : Hid (pn = m * 64 ∧ m ≤ 65536 ∧ xs.length = pn ∧ a + m ≤ 65536 ∧ rn ≤ 100000) := Lib.hid ⟨hpn, by omega, hpl, by omega, hrn⟩
  have hpc : pn ≤ pc := src_capn hp.now
  have HPC := Lib.hid hpc
  have g0 : ((pn : Int) == 0) = false := by rw [beq_eq_false_iff_ne]; omega
  have g1 : ¬ (pn : Int) = 0 := by omega
  have g2 : Int.tmod (pn : Int) 64 = 0 := by rw [Int.tmod_eq_emod_of_nonneg (Int.natCast_nonneg pn)]; omega
  have g2' : (pn : Int) % 64 = 0 := by omega
  have g3 : Int.tdiv (pn : Int) 64 = (m : Nat) := by rw [Int.tdiv_eq_ediv_of_nonneg (Int.natCast_nonneg pn)]; omega
  have g4 : (pn : Int) / 64 = (m : Nat) := by omega
  have g5 : wrap64 ((m : Nat) : Int) = (m : Nat) := IntWalk.wrap64_in _ (by omega)
  have HY := Lib.hid hy
  clear hy hD hw1 hN hN2 hrn ho hf hp hpl hpn ha ho2 hf2 hdn hak hrl hC hpc
  go_enter Tryz.func41, Tryz.ntmps41
  go_upto_region 1 with (fail)
  rw [← HE1.out]
  clear HE1
  generalize hq4 : w.heap.size + 1 + 1 = q4 at HR ⊢
  generalize hq3 : w.heap.size + 1 = q3 at HQ3 hq4 ⊢
  generalize hq1 : w.heap.size = q1 at HD hq3 ⊢
  have HQN : Hid (q1 < q3 ∧ q3 < q4 ∧ w.heap.size ≤ q1) := Lib.hid (by omega)
  clear hq3 hq4 hq1
  obtain ⟨i0, i1_, i2, i3, i4, i5⟩ := blk_six HD.out
  obtain ⟨j0, j1, j2, j3, j4⟩ := blk_five HQ3.out
  go_upto_region 5 with (go_at_call 39; (with_reducible refine (HIS.out _).mono ?_); rintro e w2 ⟨rfl, ho⟩; have HO2 := Lib.hid ho; clear ho)
  clear g0 g1 g2 g2' g3 g4 g5
  replace HD := Lib.hid (HD.out.only HO2.out (Nat.not_le.2 HD.out.lt))
  replace HQ3 := Lib.hid (HQ3.out.only HO2.out (Nat.not_le.2 HQ3.out.lt))
  replace HR := Lib.hid (HR.out.only HO2.out (Nat.not_le.2 HR.out.lt))
  have HW2 := Lib.hid (on_new HO1.out HO2.out)
  clear HO2 HO1 HIS i0 i1_ i2 i3 i4 i5 j0 j1 j2 j3 j4
  have HD0 : Hid (Only (w2.heap.size ≤ ·) w2 (w2.alloc (.cells #[] 87))) := Lib.hid ((Only.refl _ w2).alloc (fun _ h => h) _)
  have i2 : (w2.alloc (.cells #[] 87)).cell? ⟨q1, 2, none⟩ = some (.slice RA rn rc) := (HD.out.only HD0.out (Nat.not_le.2 HD.out.lt)).cell 2
  go_upto_region 6 with (at_builtin; refine k_wpList_append_row rfl (.tmp 30) (.tmp 32) 32 rfl w2.heap.size 87 i1 zKW 2 32 Tryz.underlying32 HI1.out.1 HI1.out.2.1 HI1.out.2.2.1 HI1.out.2.2.2 (by rfl) (by omega) (.slice (some ⟨w2.heap.size, 0, none⟩) 0 0) 0 [] rfl (k_own_none w2 87 2) RA rn rc C0 rfl HCI.out.2.1 HCI.out.1 (HSR.out _ ((on_new HW2.out HD0.out).mono fun k h => .inr h)) HCI.out.2.2 (by have h := HPN.out; simp only [maxLen]; omega) (by have h := HPN.out; omega) (by simp) ?_; intro v' w3 ho' hg' hat'; rw [Nat.zero_add, List.nil_append] at ho'; (obtain ⟨R3, t3, rfl, _⟩ := raw_of_own ho'); have HR3 := Lib.hid ho'; have HX3 : Hid (Only (w2.heap.size ≤ ·) w2 w3) := Lib.hid ((k_grow_only hg').mono fun j hj => hj.elim (fun e => Nat.le_of_eq (Option.some.inj e)) fun h => h); clear ho' hg' hat' i2)
  clear HD0 HSR HCI
  go_wp2
  go_loopg [6, 7] m (fun gk s i wr => ∃ (k : Nat) (R : Option Addr) (z t lo : Nat) (C : List Value), gk = m - k ∧ k ≤ m ∧ s = .slice R z t ∧ i = .int .i64 (lo : Int) ∧ Hid (lo = k * 64 ∧ z = rn + k) ∧ Hid (wr.ownsRow w2.heap.size 87 2 (.slice R z t) z C) ∧ Hid (∀ W, Only (fun k => D k ∨ w.heap.size ≤ k) w W → Den (kwE.At W) (row ++ Dk.chunks a xs k) C) ∧ Hid (Only (w2.heap.size ≤ ·) w2 wr))
  case atStart => exact ⟨0, R3, rn, t3, 0, C0, rfl, Nat.zero_le _, rfl, rfl, Lib.hid ⟨by omega, by omega⟩, HR3, Lib.hid (fun W hW => by have h := HDN.out W hW; simpa [Dk.chunks] using h), HX3⟩
  case round =>
    obtain ⟨k, R, z, t, lo, C, rfl, hk, rfl, rfl, HK, HRO, HDE, HO⟩ := hrel
    obtain ⟨j0, j1, j2, j3, j4⟩ := blk_five (HQ3.out.only HO.out (Nat.not_le.2 HQ3.out.lt))
    by_cases hlt : k < m
    · obtain ⟨hi, hhi⟩ : ∃ y, y = lo + 64 := ⟨_, rfl⟩
      obtain ⟨ak, hak⟩ : ∃ y, y = a + k := ⟨_, rfl⟩
      have hlim := wr_lims HK.out.1 hlt HPN.out.1 HK.out.2 HPN.out.2.1 HPN.out.2.2.2.2 hhi HPC.out
      have HLO : Hid (lo < hi ∧ hi ≤ pn ∧ hi = lo + 64 ∧ ak = a + k) := Lib.hid ⟨hlim.1.1, hlim.1.2, hhi, hak⟩
      obtain ⟨_, c6, c4, c5, c7, c8, c9, c10, c11⟩ := hlim
      have HC1 := Lib.hid (And.intro c10 c11)
      have hnum := wr_nums HK.out.1 hlt HPN.out.1 HPN.out.2.1 HPN.out.2.2.2.1 hhi hak
      clear c10 c11
      obtain ⟨b1, b2, b3, b4, b5, b6⟩ := hnum
      clear hhi hak
      go_upto_region 9 with (fail)
      clear b1
      have KP : Hid (∀ W : World, Only (w2.heap.size ≤ ·) w2 W → (fun W : World => W.cell? ⟨q3, 1, none⟩ = some (.int .i64 (a : Nat)) ∧ W.cell? ⟨q3, 3, none⟩ = some (.slice (some ⟨pb, po, none⟩) pn pc)) W) := Lib.hid (fun W hW => by
        obtain ⟨j0, j1, j2, j3, j4⟩ := blk_five (HQ3.out.only hW (Nat.not_le.2 HQ3.out.lt))
        exact ⟨j1, j3⟩)
      clear j0 j1 j2 j3 j4
      have HSX := Lib.hid (KP.out _ (HO.out.drew))
      have HOD : Hid (Only (w2.heap.size ≤ ·) w2 wr.drew) := Lib.hid HO.out.drew
      have HRD : Hid (wr.drew.ownsRow w2.heap.size 87 2 (.slice R z t) z C) := Lib.hid (show wr.drew.ownsRow w2.heap.size 87 2 (.slice R z t) z C from HRO.out)
      refine wp_region_list (B := [false, false, false, false, false, false, false, false, false, false, false, false, false, false, false, false]) (S := (fun W : World => W.cell? ⟨q3, 1, none⟩ = some (.int .i64 (a : Nat)) ∧ W.cell? ⟨q3, 3, none⟩ = some (.slice (some ⟨pb, po, none⟩) pn pc))) (by kernel_rfl) (by kernel_rfl) (by kernel_rfl) HSX.out (fun hsel hHeld => ?_)
      generalize hwz : World.drew _ = wd0 at HSX HOD HRD hHeld ⊢
      clear hwz HRO HO
      have HOA : Hid (Only (w2.heap.size ≤ ·) w2 (wd0.alloc (.cells #[.int .i64 (ak : Nat), .slice (some ⟨pb, po + lo, none⟩) (hi - lo) (pc - lo)] 87))) := Lib.hid (HOD.out.alloc (fun _ h => h) _)
      have HBA : Hid (Blk (wd0.alloc (.cells #[.int .i64 (ak : Nat), .slice (some ⟨pb, po + lo, none⟩) (hi - lo) (pc - lo)] 87)) wd0.heap.size 87 [.int .i64 (ak : Nat), .slice (some ⟨pb, po + lo, none⟩) (hi - lo) (pc - lo)]) := Lib.hid (Blk.new wd0 _ _)
      refine oneA 0 41 hsel (h := ?_)
      simp only [Act.put, lsa, lsz, lss]
      refine oneA 1 42 hsel (h := ?_)
      simp only [Act.put, lsa, lsz, lss]
      refine oneA 2 43 hsel (h := ?_)
      simp only [Act.put, lsa, lsz, lss]
      refine oneA 3 44 hsel (h := ?_)
      simp only [Act.put, lsa, lsz, lss]
      refine oneA 4 45 hsel (h := ?_)
      simp only [Act.put, lsa, lsz, lss]
      refine oneA 5 46 hsel (h := ?_)
      simp only [Act.put, lsa, lsz, lss]
      refine oneA 6 47 hsel (h := ?_)
      simp only [Act.put, lsa, lsz, lss]
      refine oneA 7 48 hsel (h := ?_)
      simp only [Act.put, lsa, lsz, lss]
      refine oneA 8 49 hsel (h := ?_)
      simp only [Act.put, lsa, lsz, lss]
      refine oneA 9 50 hsel (h := ?_)
      simp only [Act.put, lsa, lsz, lss]
      refine oneA 10 51 hsel (h := ?_)
      simp only [Act.put, lsa, lsz, lss]
      refine oneA 11 52 hsel (h := ?_)
      simp only [Act.put, lsa, lsz, lss]
      refine oneA 12 53 hsel (h := ?_)
      simp only [Act.put, lsa, lsz, lss]
      refine wpAnyL_ready (rs := [13]) (by kernel_rfl) (by kernel_rfl) (by simp) ?_
      refine AllReadyL.cons (o := ?_) ?_ (fun K hK => ?_) AllReadyL.nil
      case refine_2 => (simp only [List.getElem?_cons_succ, List.getElem?_cons_zero]; rfl)
      go_simp
      clear hHeld
      refine hK.out _ _ (KP.out _ HOA.out) (fun hHeld => ?_)
      clear hK K
      try simp only [Act.put, lsa, lsz, lss]
      refine wpAnyL_ready (rs := [14]) (by kernel_rfl) (by kernel_rfl) (by simp) ?_
      refine AllReadyL.cons (o := ?_) ?_ (fun K hK => ?_) AllReadyL.nil
      case refine_2 => (simp only [List.getElem?_cons_succ, List.getElem?_cons_zero]; rfl)
      rw [if_pos (by kernel_rfl)]
      refine k_wp_append_row (.tmp 41) (.tmp 54) 32 rfl w2.heap.size 87 i1 zKW 2 32 Tryz.underlying32 HI1.out.1 HI1.out.2.1 HI1.out.2.2.1 HI1.out.2.2.2 (by rfl) (by omega) (.slice R z t) z C rfl (World.ownsRow.alloc HRD.out _) (some ⟨wd0.heap.size, 0, none⟩) 1 1 [.int .i64 (ak : Nat), .slice (some ⟨pb, po + lo, none⟩) (hi - lo) (pc - lo)] rfl (fun e => by cases e) rfl (fun ad e j u hu => by cases e; rw [Addr.add_lit, HBA.out.cell, Nat.zero_add]; exact hu) (by simp [Value.oneCell']) HC1.out.1 HC1.out.2 HOA.out.size ?_
      intro v' w4 ho' hg' hat'
      obtain ⟨R4, t4, rfl, _⟩ := raw_of_own ho'
      have HR4 := Lib.hid ho'
      have HX4 : Hid (Only (w2.heap.size ≤ ·) w2 w4) := Lib.hid (HOD.out.trans ((k_grow_only hg').mono fun j hj => hj.elim (fun e => (World.ownsRow.lt HRD.out j e).1) fun h => Nat.le_trans HOD.out.size h))
      clear ho' hg' hat'
      clear hHeld
      refine hK.out _ _ (KP.out _ HX4.out) (fun hHeld => ?_)
      clear hK K
      try simp only [Act.put, lsa, lsz, lss]
      refine oneA 15 6 hsel (h := ?_)
      simp only [Act.put, lsa, lsz, lss]
      refine wpAnyL_done (by kernel_rfl) (by kernel_rfl) ?_ _
      clear hsel hHeld
      go_wp2
      go_roundg (m - (k + 1))
      case measure => (clear b2 b3 b4 b5 b6; omega)
      case rel =>
        refine ⟨k + 1, R4, z + 1, t4, hi, _, rfl, hlt, rfl, rfl, Lib.hid ⟨by rw [HLO.out.2.2.1, HK.out.1, Nat.succ_mul], by rw [HK.out.2]; rfl⟩, HR4, Lib.hid (fun W hW => ?_), HX4⟩
        rw [Dk.chunks_succ, ← List.append_assoc]
        refine Den.append (HDE.out W hW) (Den.single ?_)
        have h1 := HK.out
        have h2 := HLO.out
        have h3 := HPN.out
        clear b2 b3 b4 b5 b6 c4 c5 c6 c7 c8 c9
        have h4 := src_part (HPS.out W hW) (a := lo) (z := hi) (by omega) (by omega)
        have e1 : ((xs.drop (k * 64)).take 64).length = hi - lo := by rw [List.length_take, List.length_drop]; omega
        have e2 : (xs.drop lo).take (hi - lo) = (xs.drop (k * 64)).take 64 := by rw [h1.1]; congr 1; omega
        rw [e2] at h4
        exact ⟨some ⟨pb, po + lo, none⟩, pc - lo, by rw [e1, h2.2.2.2], by rw [e1]; exact h4⟩
    · obtain rfl : k = m := by omega
      have hge : ¬ (lo : Int) < (pn : Int) := by have h1 := HK.out; have h2 := HPN.out; omega
      have HZL : Hid (z = (row ++ Dk.chunks a xs k).length) := Lib.hid (by rw [List.length_append, Dk.chunks_length, HK.out.2, HRL.out])
      have HD4 := Lib.hid (HD.out.only HO.out (Nat.not_le.2 HD.out.lt))
      have HR4 := Lib.hid (HR.out.only HO.out (Nat.not_le.2 HR.out.lt))
      have HQL := Lib.hid HD.out.lt
      obtain ⟨w5, hw5⟩ : ∃ W0, W0 = wr.setCell ⟨q1, 2, none⟩ (.slice R z t) := ⟨_, rfl⟩
      have HO5 : Hid (Only (· = q1) wr w5) := Lib.hid (by rw [hw5]; exact (Only.refl (· = q1) wr).setCell (p := ⟨q1, 2, none⟩) rfl _)
      have HD5 : Hid (Blk w5 q1 34 [.int .i64 L, .slice BA bn bc, .slice R z t, .int .i64 ops, .int .i64 fu, .bool false]) := Lib.hid (by rw [hw5]; exact HD4.out.set_ 2 (.slice R z t))
      have HR5 := Lib.hid (HR4.out.only HO5.out (fun e => by have h := HQN.out; have h2 : q4 = q1 := e; omega))
      have HRO5 := Lib.hid (own_on HRO.out HO5.out (fun j hj e => by have h := (World.ownsRow.lt HRO.out j hj).1; have h2 : j = q1 := e; have h3 := HQL.out; omega))
      have HX5 : Hid (Only (w.heap.size ≤ ·) w w5) := Lib.hid ((on_new HW2.out HO.out).trans (HO5.out.mono fun j hj => by have h2 : j = q1 := hj; have h3 := HQN.out; omega))
      have HW5 := Lib.hid hw5
      have z2 := HD4.out.frozen 2
      obtain ⟨i0, i1_, i2, i3, i4, i5⟩ := blk_six HD4.out
      clear hw5 HD4 HR4 HRO HO5 HO
      go_upto_region 12 with (go_at_call 42; (with_reducible refine (HC.out _ R z t).mono ?_); rintro e w6 ⟨rfl, ho⟩; (rw [← HW5.out] at ho); have HO6 := Lib.hid ho; clear ho i0 i1_ i2 i3 i4 i5 z2 j0 j1 j2 j3 j4; have HD6 := Lib.hid (HD5.out.only HO6.out (Nat.not_le.2 HD5.out.lt)); (obtain ⟨i0, i1_, i2, i3, i4, i5⟩ := blk_six HD6.out); have y0 := HD6.out.frozen 0; have y1 := HD6.out.frozen 1; have y2 := HD6.out.frozen 2; have y3 := HD6.out.frozen 3; have y4 := HD6.out.frozen 4; have y5 := HD6.out.frozen 5)
      clear i0 i1_ i2 i3 i4 i5 y0 y1 y2 y3 y4 y5
      have hk := kd_set (a' := .int .i64 L) (b' := .slice BA bn bc) (c' := .slice R z t) (d' := .int .i64 o2) (e' := .int .i64 f2) (f' := .bool dn) HD6.out
      have HR6 := Lib.hid (HR5.out.only HO6.out (Nat.not_le.2 HR5.out.lt))
      have HRO6 := Lib.hid (own_later HRO5.out HO6.out)
      have HX6 := Lib.hid (on_new HX5.out HO6.out)
      have HQL6 := Lib.hid HO6.out.size
      generalize hw7 : (((((w6.setCell ⟨q1, 0, none⟩ (.int .i64 L)).setCell ⟨q1, 1, none⟩ (.slice BA bn bc)).setCell ⟨q1, 2, none⟩ (.slice R z t)).setCell ⟨q1, 3, none⟩ (.int .i64 o2)).setCell ⟨q1, 4, none⟩ (.int .i64 f2)).setCell ⟨q1, 5, none⟩ (.bool dn) = w7 at hk ⊢
      clear hw7
      have HD7 := Lib.hid hk.1
      have HO7 := Lib.hid hk.2
      clear hk
      have HR7 := Lib.hid (HR6.out.only HO7.out (fun e => by have h := HQN.out; have h2 : q4 = q1 := e; omega))
      have HRO7 := Lib.hid (own_on HRO6.out HO7.out (fun j hj e => by have h := (World.ownsRow.lt HRO6.out j hj).1; have h2 : j = q1 := e; have h3 := HQL.out; omega))
      have HX7 : Hid (Only (w.heap.size ≤ ·) w w7) := Lib.hid (HX6.out.trans (HO7.out.mono fun j hj => by have h2 : j = q1 := hj; have h3 := HQN.out; omega))
      clear HD5 HR5 HRO5 HX5 HO6 HD6 HR6 HRO6 HX6 HO7
      obtain ⟨i0, i1_, i2, i3, i4, i5⟩ := blk_six HD7.out
      obtain ⟨r0, r1, r2, r3, r4, r5⟩ := blk_six HR7.out
      have f0 := HR7.out.frozen 0
      have f1 := HR7.out.frozen 1
      have g2 := HR7.out.frozen 2
      have f3 := HR7.out.frozen 3
      have f4 := HR7.out.frozen 4
      have f5 := HR7.out.frozen 5
      have hk := kd_set (a' := .int .i64 L) (b' := .slice BA bn bc) (c' := .slice R z t) (d' := .int .i64 o2) (e' := .int .i64 f2) (f' := .bool dn) HR7.out
      have HK8 := Lib.hid hk
      clear hk
      have HFIN : Hid (∀ W, Only (· = q4) w7 W → SRw kwE D W (.slice R z t) (row ++ Dk.chunks a xs k) ∧ Only (w.heap.size ≤ ·) w W) := Lib.hid (fun W hW => by
        have hx : Only (w.heap.size ≤ ·) w W := HX7.out.trans (hW.mono fun j hj => by have h2 : j = q4 := hj; have h3 := HQN.out; omega)
        have hr := own_on HRO7.out hW (fun j hj e => by have h := (World.ownsRow.lt HRO7.out j hj).1; have h2 : j = q4 := e; have h3 := HR.out.lt; omega)
        refine ⟨⟨C, fun W2 hW2 => ?_⟩, hx⟩
        have h10 := HW2.out.size
        have hr2 := own_on hr hW2 (fun j hj e => by
          have h := World.ownsRow.lt hr j hj
          rcases e with e | e
          · have h5 := H0.out j e
            omega
          · omega)
        have hd := HDE.out W2 ((hx.mono fun j hj => .inr hj).trans (hW2.mono fun j hj => hj.imp id fun h => Nat.le_trans hx.size h))
        obtain ⟨A', c', e, hr3, h2, h3, h4, _⟩ := raw_of_own hr2
        cases e
        exact ⟨hd, R, t, by rw [← HZL.out], by rw [← HZL.out]; exact hr2.1, hr3, h2, by rw [← HZL.out]; exact h3, h4, Den.one (fun _ _ => kwE.one) hd⟩)
      cases dn with
      | true =>
        go_wp2
        refine bodyPost_ret (k_results_cell_tmp rfl rfl (load_kd HK8.out.1)) rfl ?_
        obtain ⟨h1, h2⟩ := HFIN.out _ HK8.out.2
        exact ⟨R, z, t, by rw [HY.out]; rfl, HZL.out, h1, h2⟩
      | false =>
        go_wp2
        refine bodyPost_ret (k_results_cell_tmp rfl rfl (load_kd HK8.out.1)) rfl ?_
        obtain ⟨h1, h2⟩ := HFIN.out _ HK8.out.2
        exact ⟨R, z, t, by rw [HY.out]; rfl, HZL.out, h1, h2⟩
end Go.Proofs.YtbpldkhgiddmlaaGreatDoor
