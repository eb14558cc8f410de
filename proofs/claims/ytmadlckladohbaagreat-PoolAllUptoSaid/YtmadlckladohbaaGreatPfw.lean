/-
  The law's few.
-/
import Derived.Test.YtmadlckladohbaaGreatOfp
import Derived.Test.YtmadlckladohbaaGreatPnw
import Derived.Test.YtmadlckladohbaaGreatSame
set_option linter.unusedVariables false
namespace Go.Proofs.YtmadlckladohbaaGreat
open Go.RowKit Go.Shelf

/-- A call of a script. -/
structure OpD where
  k : Int
  t : Int
  n : Int
  a : Int
  l : Int
def oc (o : OpD) : List Value := [.int .i64 o.k, .int .i64 o.t, .int .i64 o.n, .int .i64 o.a, .int .i64 o.l]
def ocs (l : List OpD) : List Value := l.flatMap oc
theorem ocs_cons (x : OpD) (l : List OpD) : ocs (x :: l) = oc x ++ ocs l := rfl
theorem ocs_get (i : Nat) (hi : i < 5) : ∀ {l : List OpD} {k : Nat} {x : OpD}, l[k]? = some x → (ocs l)[k * 5 + i]? = (oc x)[i]?
  | [], k, x, h => by simp at h
  | y :: l, 0, x, h => by
    simp at h
    subst h
    rw [ocs_cons, List.getElem?_append_left (by simp [oc]; omega)]
    simp
  | y :: l, k + 1, x, h => by
    rw [ocs_cons, List.getElem?_append_right (by simp [oc]; omega)]
    have := ocs_get i hi (l := l) (k := k) (x := x) (by simpa using h)
    rw [← this]
    congr 1
    simp [oc]
    omega
/-- The slice's address holds these calls. -/
def Os (w : World) (A : Option Addr) (l : List OpD) : Prop := 0 < l.length → ∃ b off, A = some ⟨b, off, none⟩ ∧ b < w.heap.size ∧ ∀ j u, (ocs l)[j]? = some u → w.cell? ⟨b, off + j, none⟩ = some u
section
variable {w w' : World} {A : Option Addr} {l : List OpD}
theorem Os.nil_ (w : World) (A : Option Addr) : Os w A [] := fun h => absurd h (by decide)
theorem Os.later (h : Os w A l) (ho : Only (w.heap.size ≤ ·) w w') : Os w' A l := fun hn => by
  obtain ⟨b, off, e, hb, hc⟩ := h hn
  exact ⟨b, off, e, Nat.lt_of_lt_of_le hb ho.size, fun j u hu => (ho.cell (p := ⟨b, off + j, none⟩) (Nat.not_le.2 hb)).trans (hc j u hu)⟩
theorem Os.at_ (h : Os w A l) {k : Nat} (hk : k < l.length) : ∃ b off o, A = some ⟨b, off, none⟩ ∧ b < w.heap.size ∧ l[k]? = some o ∧ w.cell? ⟨b, off + k * 5, none⟩ = some (.int .i64 o.k) ∧ w.cell? ⟨b, off + k * 5 + 1, none⟩ = some (.int .i64 o.t) ∧ w.cell? ⟨b, off + k * 5 + 2, none⟩ = some (.int .i64 o.n) ∧ w.cell? ⟨b, off + k * 5 + 3, none⟩ = some (.int .i64 o.a) ∧ w.cell? ⟨b, off + k * 5 + 4, none⟩ = some (.int .i64 o.l) := by
  obtain ⟨b, off, e, hb, hc⟩ := h (by omega)
  have hx : l[k]? = some l[k] := List.getElem?_eq_getElem hk
  exact ⟨b, off, l[k], e, hb, hx, hc _ _ (ocs_get 0 (by decide) hx), by rw [Nat.add_assoc]; exact hc _ _ (ocs_get 1 (by decide) hx), by rw [Nat.add_assoc]; exact hc _ _ (ocs_get 2 (by decide) hx), by rw [Nat.add_assoc]; exact hc _ _ (ocs_get 3 (by decide) hx), by rw [Nat.add_assoc]; exact hc _ _ (ocs_get 4 (by decide) hx)⟩
end
def OkOp (o : OpD) : Prop := ¬ (o.k ≠ 2 ∧ 60 < o.n ∧ o.n ≤ 16384) ∧ ¬ (o.k = 2 ∧ o.t < 0)
def FewOk (a b : List R) (pages : Int) (l : List OpD) : Prop := (∀ o ∈ l, OkOp o) ∧ (∀ x ∈ a ++ b, may x = true → x.1 + x.2 ≤ 600) ∧ l.length ≤ 60 ∧ pages ≤ 600
def FewSays (w : World) (a b : List R) (pages : Int) (l : List OpD) (e : Ending) (w' : World) : Prop := (∃ r : Bool, e = .returned (.bool r) ∧ (r = true ↔ FewOk a b pages l)) ∧ Only (w.heap.size ≤ ·) w w'

section
variable {P : Program} {w : World}
theorem wp_append_src {o : Oper} {a : Act} {K : Act → World → Prop} {Q : Exit → Act → World → Prop} (s x : Operand) (t : TypeId)
    (ho : o.op = .call { callee := .builtin .append, args := #[s, x], argTypes := #[t, t] })
    (base : Nat) (e : TypeId) (i : TypeInfo) (z : Value) (size bytes : Nat) (ht : P.underlying t = some (.slice e)) (hi : P.info? e = some i) (hz : i.zero = some z)
    (hsize : i.size = size) (hby : i.bytes = bytes) (hzs : z.cells.size = size) (hsz : 0 < size)
    (v : Value) (n : Nat) (xs : List Value) (hs : a.eval s = v) (hown : w.ownsRow base e size v n xs)
    (A : Option Addr) (m c : Nat) (news : List Value) (hx : a.eval x = .slice A m c) (hnone : A = none → m = 0 ∧ c = 0) (hl : news.length = m * size) (hnews : ∀ ad, A = some ad → ∀ j u, news[j]? = some u → w.cell? (ad.add j) = some u) (h1 : ∀ u ∈ news, u.oneCell' = true)
    (h63 : n + m ≤ maxLen) (hbytes : (n + m) * bytes ≤ 140737488355328) (hbase : base ≤ w.heap.size)
    (h : ∀ v' w', w'.ownsRow base e size v' (n + m) (xs ++ news) → w.grownBy w' v.ownBlock → K (a.put o.dst v') w') : o.wp P a w K Q := by
  cases A with
  | some ad =>
    obtain ⟨v', w', hr, h2, h3, h4⟩ := run_append_own (P := P) w base t o.type e i z size bytes ht hi hz hsize hby hzs hsz v n xs hown ad m c news hl (hnews ad rfl) h1 h63 hbytes hbase
    unfold Oper.wp execOp
    simp only [ho, resolve, invoke, builtin, Sem.run_bind, Sem.run_pure, Result.andThen_ok, List.map_toArray, List.map_cons, List.map_nil, hs, hx, hr]
    exact h v' w' h2 h3
  | none =>
    obtain ⟨rfl, rfl⟩ := hnone rfl
    obtain rfl : news = [] := List.eq_nil_of_length_eq_zero (by simpa using hl)
    have hr := run_append_owned_none (P := P) (w := w) base t o.type e i size ht hi v n xs hown
    unfold Oper.wp execOp
    simp only [ho, resolve, invoke, builtin, Sem.run_bind, Sem.run_pure, Result.andThen_ok, List.map_toArray, List.map_cons, List.map_nil, hs, hx, hr]
    exact h v w (by simpa using hown) (World.grownBy.refl w _)
end
theorem none_slice {w : World} {A : Option Addr} {l : List R} {n c : Nat} (h : Rs w A l) (hn : n = l.length) (hA : A = none → c = 0) : A = none → n = 0 ∧ c = 0 := fun e => by
  refine ⟨?_, hA e⟩
  rcases Nat.eq_zero_or_pos l.length with h0 | h0
  · omega
  · obtain ⟨_, _, e', _⟩ := h h0
    rw [e] at e'
    cases e'
theorem own_form {w : World} {B s n : Nat} {e : TypeId} {v : Value} {xs : List Value} (h : w.ownsRow B e s v n xs) : ∃ A c, v = .slice A n c := by
  rcases Joins.ownsRow_forms h with ⟨rfl, rfl⟩ | ⟨g, cap, rfl⟩
  · exact ⟨none, 0, rfl⟩
  · exact ⟨_, _, rfl⟩

set_option maxRecDepth 100000 in
set_option maxHeartbeats 6400000 in
theorem pfew_c (w : World) (A B C : Option Addr) (nn cc mm dd n c : Nat) (a b : List R) (pages : Int) (l : List OpD) (ha : Row w (.slice A nn cc) a) (hb : Row w (.slice B mm dd) b) (hl : Os w C l) (hn : l.length = n) (hla : a.length ≤ 2000000) (hlb : b.length ≤ 2000000) (hln : n ≤ 20000000) :
    Calls Tryz.prog 4 #[.agg #[.slice A nn cc, .slice B mm dd], .int .i64 pages, .slice C n c] w (FewSays w a b pages l) := by
  obtain ⟨i0, hi0, hz0, hz1, hz2⟩ := info_parts infoRef
  have HI := Lib.hid (And.intro hi0 (And.intro hz0 (And.intro hz1 hz2)))
  obtain ⟨A', c', e, hsa, han, _, _⟩ := ha
  simp only [Value.slice.injEq] at e
  obtain ⟨rfl, hna, rfl⟩ := e
  obtain ⟨B', d', e, hsb, hbn, _, _⟩ := hb
  simp only [Value.slice.injEq] at e
  obtain ⟨rfl, hnb, rfl⟩ := e
  have HSA : Hid ((A = none → nn = 0 ∧ cc = 0) ∧ Rs w A a) := Lib.hid ⟨none_slice hsa hna han, hsa⟩
  have HSB : Hid ((B = none → mm = 0 ∧ dd = 0) ∧ Rs w B b) := Lib.hid ⟨none_slice hsb hnb hbn, hsb⟩
  have HLA : Hid (a.length = nn) := Lib.hid hna.symm
  have HLB : Hid (b.length = mm) := Lib.hid hnb.symm
  have HOS := Lib.hid hl
  have HN := Lib.hid hn
  have hnn : nn ≤ 2000000 := by omega
  have hmm : mm ≤ 2000000 := by omega
  clear hsa hsb hna hnb hla hlb hi0 hz0 hz1 hz2 hl hn han hbn
  have HO : Hid (Only (w.heap.size ≤ ·) w (w.alloc (.cells #[.slice A nn cc, .slice B mm dd] 24))) := Lib.hid ((Only.refl _ w).alloc (fun _ h => h) _)
  have HB1 : Hid (Blk (w.alloc (.cells #[.slice A nn cc, .slice B mm dd] 24)) w.heap.size 24 [.slice A nn cc, .slice B mm dd]) := Lib.hid (Blk.new w _ [.slice A nn cc, .slice B mm dd])
  go_enter Tryz.func4, Tryz.ntmps4
  go_wp2
  go_loopw [7, 14] (fun s i wr => ∃ (k : Nat), k ≤ n ∧ s = .int .i64 k ∧ i = .int .i64 k ∧ Hid (Blk wr w.heap.size 24 [.slice A nn cc, .slice B mm dd]) ∧ Hid (∀ j o, j < k → l[j]? = some o → OkOp o) ∧ Hid (Only (w.heap.size ≤ ·) w wr)) (fun _ i _ => n - (intOf i).toNat)
  case atStart => exact ⟨0, Nat.zero_le _, rfl, rfl, HB1, Lib.hid fun j o hj => absurd hj (Nat.not_lt_zero _), HO⟩
  case round =>
    obtain ⟨k, hk, rfl, rfl, HB1, HOK, HO⟩ := hrel
    by_cases hlt : k < n
    · obtain ⟨g, off, o, rfl, hg, hx, c0, c1, c2, c3, c4⟩ := (HOS.out.later HO.out).at_ (k := k) (by rw [HN.out]; exact hlt)
      have HX := Lib.hid hx
      obtain ⟨ok, ot, on, oa, ol⟩ := o
      simp only at c0 c1 c2 c3 c4
      clear hx
      have HBO : Hid (Blk (wr.alloc (.cells #[.int .i64 ok, .int .i64 ot, .int .i64 on, .int .i64 oa, .int .i64 ol] 46)) wr.heap.size 46 [.int .i64 ok, .int .i64 ot, .int .i64 on, .int .i64 oa, .int .i64 ol]) := Lib.hid (Blk.new wr _ [.int .i64 ok, .int .i64 ot, .int .i64 on, .int .i64 oa, .int .i64 ol])
      have HO2 : Hid (Only (w.heap.size ≤ ·) w (wr.alloc (.cells #[.int .i64 ok, .int .i64 ot, .int .i64 on, .int .i64 oa, .int .i64 ol] 46))) := Lib.hid (HO.out.alloc (fun _ h => h) _)
      have HB2 := Lib.hid (HB1.out.alloc (.cells #[.int .i64 ok, .int .i64 ot, .int .i64 on, .int .i64 oa, .int .i64 ol] 46))
      have q0 := HBO.out.cell 0
      have q1 := HBO.out.cell 1
      have q2 := HBO.out.cell 2
      simp only [List.getElem?_cons_zero, List.getElem?_cons_succ] at q0 q1 q2
      have HST : Hid (OkOp ⟨ok, ot, on, oa, ol⟩ → ∀ j o, j < k + 1 → l[j]? = some o → OkOp o) := Lib.hid fun h j o hj ho => by
        rcases Nat.lt_or_ge j k with hjk | hjk
        · exact HOK.out j o hjk ho
        · obtain rfl : j = k := by omega
          rw [HX.out] at ho
          cases ho
          exact h
      have HBAD : Hid (¬ OkOp ⟨ok, ot, on, oa, ol⟩ → ¬ FewOk a b pages l) := Lib.hid fun h hf => h (hf.1 _ (List.mem_of_getElem? HX.out))
      by_cases d1 : ok = 2
      · subst d1
        by_cases d2 : ot < 0
        · go_wp2
          go_ret
          exact ⟨⟨_, rfl, by simp only [Bool.false_eq_true, false_iff]; exact HBAD.out (fun h => h.2 ⟨rfl, d2⟩)⟩, HO2.out⟩
        · go_wp2
          go_roundw
          case rel => exact ⟨k + 1, by omega, by go_num, by go_num, HB2, Lib.hid (HST.out ⟨fun h => h.1 rfl, fun h => d2 h.2⟩), HO2⟩
          case measure => simp [intOf]; omega
      · by_cases d2 : 60 < on
        · by_cases d3 : on ≤ 16384
          · go_wp2
            go_ret
            exact ⟨⟨_, rfl, by simp only [Bool.false_eq_true, false_iff]; exact HBAD.out (fun h => h.1 ⟨d1, d2, d3⟩)⟩, HO2.out⟩
          · go_wp2
            go_roundw
            case rel => exact ⟨k + 1, by omega, by go_num, by go_num, HB2, Lib.hid (HST.out ⟨fun h => d3 h.2.2, fun h => d1 h.1⟩), HO2⟩
            case measure => simp [intOf]; omega
        · go_wp2
          go_roundw
          case rel => exact ⟨k + 1, by omega, by go_num, by go_num, HB2, Lib.hid (HST.out ⟨fun h => d2 h.2.1, fun h => d1 h.1⟩), HO2⟩
          case measure => simp [intOf]; omega
    · obtain rfl : k = n := by omega
      have hkm : ¬ (k : Int) < (k : Int) := by omega
      have HALL : Hid (∀ o ∈ l, OkOp o) := Lib.hid fun o ho => by
        obtain ⟨j, hj⟩ := List.mem_iff_getElem?.1 ho
        have := (List.getElem?_eq_some_iff.1 hj).1
        exact HOK.out j o (by rw [← HN.out]; exact this) hj
      go_upto_region 9 with (fail)
      replace HO := Lib.hid HO.out.drew
      replace HB1 := Lib.hid HB1.out.drew
      refine wp_region_list (B := [false, false, false, false, false, false, false, false, false]) (S := (fun W => W.cell? ⟨w.heap.size, 0, none⟩ = some (.slice A nn cc) ∧ W.cell? ⟨w.heap.size, 1, none⟩ = some (.slice B mm dd))) (by kernel_rfl) (by kernel_rfl) (by kernel_rfl) (box_two HB1.out) (fun hsel hHeld => ?_)
      generalize hwz : World.drew _ = wz at HO HB1 hHeld ⊢
      clear hwz
      refine oneA 1 45 hsel (h := ?_)
      simp only [Act.put, List.setIfInBounds_toArray, List.set_cons_zero, List.set_cons_succ]
      refine oneA 2 46 hsel (h := ?_)
      simp only [Act.put, List.setIfInBounds_toArray, List.set_cons_zero, List.set_cons_succ]
      refine oneA 4 48 hsel (h := ?_)
      simp only [Act.put, List.setIfInBounds_toArray, List.set_cons_zero, List.set_cons_succ]
      refine oneA 5 49 hsel (h := ?_)
      simp only [Act.put, List.setIfInBounds_toArray, List.set_cons_zero, List.set_cons_succ]
      refine oneA 8 52 hsel (h := ?_)
      simp only [Act.put, List.setIfInBounds_toArray, List.set_cons_zero, List.set_cons_succ]
      refine wpAnyL_ready (rs := [0]) (by kernel_rfl) (by kernel_rfl) (by simp) ?_
      refine AllReadyL.cons (o := ?_) ?_ (fun K hK => ?_) AllReadyL.nil
      case refine_2 => (simp only [List.getElem?_cons_zero]; rfl)
      have HOE : Hid (Only (w.heap.size ≤ ·) w (wz.alloc (.cells #[] 44))) := Lib.hid (HO.out.alloc (fun _ h => h) _)
      have HBE := Lib.hid (HB1.out.alloc (.cells #[] 44))
      have HE0 : Hid ((wz.alloc (.cells #[] 44)).ownsRow (w.heap.size + 1) 44 2 (.slice (some ⟨wz.heap.size, 0, none⟩) 0 0) 0 []) := Lib.hid (World.ownsRow_made (size := 2) (base := w.heap.size + 1) (e := 44) wz #[] 0 (by have := HB1.out.lt; omega) (by simp [maxLen]) (by simp))
      go_simp
      clear hHeld
      refine hK.out _ _ (box_two HBE.out) (fun hHeld => ?_)
      clear hK K
      try simp only [Act.put, List.setIfInBounds_toArray, List.set_cons_zero, List.set_cons_succ]
      refine wpAnyL_ready (rs := [3]) (by kernel_rfl) (by kernel_rfl) (by simp) ?_
      refine AllReadyL.cons (o := ?_) ?_ (fun K hK => ?_) AllReadyL.nil
      case refine_2 => (simp only [List.getElem?_cons_succ, List.getElem?_cons_zero]; rfl)
      rw [if_pos (by kernel_rfl)]
      refine wp_append_src (.tmp 44) (.tmp 46) 22 rfl (w.heap.size + 1) 44 i0 z2 2 16 Tryz.underlying22 HI.out.1 HI.out.2.1 HI.out.2.2.1 HI.out.2.2.2 (by rfl) (by omega) (.slice (some ⟨wz.heap.size, 0, none⟩) 0 0) 0 [] rfl HE0.out A nn cc (rc a) rfl HSA.out.1 (by rw [rc_length, HLA.out]) (fun ad e j u hu => (HSA.out.2.later (HOE.out)).src ad e j u hu) (rc_one _) (by simp only [maxLen]; omega) (by omega) (by have := HO.out.size; have := HB1.out.lt; simp; omega) ?_
      intro v1 w1 ho1 hg1
      have HV1 := Lib.hid ho1
      have HB11 := Lib.hid (HBE.out.grown hg1 (fun e => by have := (World.ownsRow.lt HE0.out _ e).1; omega))
      have HO1 := Lib.hid (HOE.out.grown hg1 (fun _ h => h) (fun g e => Nat.le_of_succ_le (World.ownsRow.lt HE0.out g e).1))
      clear ho1 hg1
      clear hHeld
      refine hK.out _ _ (box_two HB11.out) (fun hHeld => ?_)
      clear hK K
      try simp only [Act.put, List.setIfInBounds_toArray, List.set_cons_zero, List.set_cons_succ]
      refine wpAnyL_ready (rs := [6]) (by kernel_rfl) (by kernel_rfl) (by simp) ?_
      refine AllReadyL.cons (o := ?_) ?_ (fun K hK => ?_) AllReadyL.nil
      case refine_2 => (simp only [List.getElem?_cons_succ, List.getElem?_cons_zero]; rfl)
      rw [if_pos (by kernel_rfl)]
      refine wp_append_src (.tmp 47) (.tmp 49) 22 rfl (w.heap.size + 1) 44 i0 z2 2 16 Tryz.underlying22 HI.out.1 HI.out.2.1 HI.out.2.2.1 HI.out.2.2.2 (by rfl) (by omega) _ (0 + nn) _ rfl HV1.out B mm dd (rc b) rfl HSB.out.1 (by rw [rc_length, HLB.out]) (fun ad e j u hu => (HSB.out.2.later (HO1.out)).src ad e j u hu) (rc_one _) (by simp only [maxLen]; omega) (by omega) (by have := HO1.out.size; have := HB11.out.lt; omega) ?_
      intro v2 w2 ho2 hg2
      have HV2 : Hid (w2.ownsRow (w.heap.size + 1) 44 2 v2 (nn + mm) (rc (a ++ b))) := Lib.hid (by have := ho2; simp only [Nat.zero_add, List.nil_append] at this; rw [rc_append]; exact this)
      have HB12 := Lib.hid (HB11.out.grown hg2 (fun e => by have := (World.ownsRow.lt HV1.out _ (show v1.ownBlock = some _ from e)).1; omega))
      have HO2 := Lib.hid (HO1.out.grown hg2 (fun _ h => h) (fun g e => Nat.le_of_succ_le (World.ownsRow.lt HV1.out g e).1))
      obtain ⟨N, hN⟩ : ∃ N, N = nn + mm := ⟨_, rfl⟩
      rw [← hN] at HV2
      have HNE := Lib.hid hN
      have hN2 : N ≤ 4000000 := by omega
      clear hN
      obtain ⟨A2, c2, rfl⟩ := own_form HV2.out
      clear ho2 hg2
      clear hHeld
      refine hK.out _ _ (box_two HB12.out) (fun hHeld => ?_)
      clear hK K
      try simp only [Act.put, List.setIfInBounds_toArray, List.set_cons_zero, List.set_cons_succ]
      refine oneA 7 51 hsel (h := ?_)
      simp only [Act.put, List.setIfInBounds_toArray, List.set_cons_zero, List.set_cons_succ]
      refine wpAnyL_done (by kernel_rfl) (by kernel_rfl) ?_ _
      clear hsel hHeld
      go_wp2_with (fail)
      have HNN : Hid ((a ++ b).length = N) := Lib.hid (by rw [List.length_append, HLA.out, HLB.out, HNE.out])
      have HRS : Hid (Rs w2 A2 (a ++ b)) := Lib.hid (by
        have h := HV2.out
        have h2 : Own w2 (w.heap.size + 1) 44 (.slice A2 N c2) (a ++ b) := by
          unfold Own
          rw [HNN.out]
          exact h
        obtain ⟨A', c', e, h3, _⟩ := h2.row
        cases e
        exact h3)
      clear HV2
      have hk6 : Hid (k = l.length) := Lib.hid HN.out.symm
      go_loopw [52] (fun i wr => ∃ (q : Nat), q ≤ N ∧ i = .int .i64 q ∧ Hid (∀ j x, j < q → (a ++ b)[j]? = some x → may x = true → x.1 + x.2 ≤ 600) ∧ Hid (Only (w2.heap.size ≤ ·) w2 wr)) (fun i _ => N - (intOf i).toNat)
      case atStart => exact ⟨0, Nat.zero_le _, rfl, Lib.hid fun j o hj => absurd hj (Nat.not_lt_zero _), Lib.hid (Only.refl _ _)⟩
      case round =>
        obtain ⟨q, hq, rfl, HQ, HOQ⟩ := hrel
        by_cases hql : q < N
        · obtain ⟨g, off, x, rfl, hg, hx, hc1, hc2⟩ := (HRS.out.later HOQ.out).at_ (k := q) (by rw [HNN.out]; exact hql)
          have HX := Lib.hid hx
          have HST : Hid ((may x = true → x.1 + x.2 ≤ 600) → ∀ j y, j < q + 1 → (a ++ b)[j]? = some y → may y = true → y.1 + y.2 ≤ 600) := Lib.hid fun h j y hj hy hm => by
            rcases Nat.lt_or_ge j q with hjq | hjq
            · exact HQ.out j y hjq hy hm
            · obtain rfl : j = q := by omega
              rw [HX.out] at hy
              cases hy
              exact h hm
          have HBAD : Hid (may x = true → ¬ x.1 + x.2 ≤ 600 → ¬ FewOk a b pages l) := Lib.hid fun h h2 hf => h2 (hf.2.1 _ (List.mem_of_getElem? HX.out) h)
          obtain ⟨x1, x2⟩ := x
          obtain ⟨m, hm⟩ : ∃ m, m = may (x1, x2) := ⟨_, rfl⟩
          have HM := Lib.hid hm
          have HMC : Hid (∀ W : World, Calls Tryz.prog 19 #[.agg #[.int .i64 x1, .int .i64 x2]] W fun e w' => e = .returned (.bool m) ∧ Only (W.heap.size ≤ ·) W w') := Lib.hid fun W => by rw [HM.out]; exact May_c W x1 x2
          have HBX : Hid (Blk (wr.alloc (.cells #[.int .i64 x1, .int .i64 x2] 44)) wr.heap.size 44 [.int .i64 x1, .int .i64 x2]) := Lib.hid (Blk.new wr _ [.int .i64 x1, .int .i64 x2])
          have HOX : Hid (Only (w2.heap.size ≤ ·) w2 (wr.alloc (.cells #[.int .i64 x1, .int .i64 x2] 44))) := Lib.hid (HOQ.out.alloc (fun _ h => h) _)
          clear hx hm
          cases m
          · have HN2 := Lib.hid (HST.out fun h => by rw [← HM.out] at h; cases h)
            go_wp2_with (go_at_call 19; (with_reducible refine (HMC.out _).mono ?_); rintro e w3 ⟨rfl, ho⟩; have HO3 := Lib.hid (on_new HOX.out ho); clear ho)
            go_roundw
            case rel => exact ⟨q + 1, by omega, by go_num, HN2, HO3⟩
            case measure => simp [intOf]; omega
          · have hmx := (may_iff (x1, x2)).1 HM.out.symm
            simp only at hmx
            by_cases hbig : 600 < x1 + x2
            · have HBD : Hid (¬ FewOk a b pages l) := Lib.hid (HBAD.out HM.out.symm (by show ¬ x1 + x2 ≤ 600; omega))
              go_wp2_with (go_at_call 19; (with_reducible refine (HMC.out _).mono ?_); rintro e w3 ⟨rfl, ho⟩; have HO3 := Lib.hid (on_new HOX.out ho); have hb3 := HBX.out.later ho; obtain ⟨y0, y1⟩ := box_two hb3; clear ho hb3)
              go_ret
              exact ⟨⟨_, rfl, by simp only [Bool.false_eq_true, false_iff]; exact HBD.out⟩, on_new HO2.out HO3.out⟩
            · have HN2 := Lib.hid (HST.out fun _ => by show x1 + x2 ≤ 600; omega)
              go_wp2_with (go_at_call 19; (with_reducible refine (HMC.out _).mono ?_); rintro e w3 ⟨rfl, ho⟩; have HO3 := Lib.hid (on_new HOX.out ho); have hb3 := HBX.out.later ho; obtain ⟨y0, y1⟩ := box_two hb3; clear ho hb3)
              go_roundw
              case rel => exact ⟨q + 1, by omega, by go_num, HN2, HO3⟩
              case measure => simp [intOf]; omega
        · obtain rfl : N = q := by omega
          have hkn : ¬ (N : Int) < (N : Int) := by omega
          have HALR : Hid (∀ x ∈ a ++ b, may x = true → x.1 + x.2 ≤ 600) := Lib.hid fun x hx => by
            obtain ⟨j, hj⟩ := List.mem_iff_getElem?.1 hx
            have := (List.getElem?_eq_some_iff.1 hj).1
            exact HQ.out j x (by rw [← HNN.out]; exact this) hj
          by_cases e1 : k ≤ 60
          · have e1' : (k : Int) ≤ 60 := by omega
            by_cases e2 : pages ≤ 600
            · go_wp2
              go_ret
              exact ⟨⟨_, rfl, by simp only [true_iff]; exact ⟨HALL.out, HALR.out, by rw [HN.out]; exact e1, e2⟩⟩, on_new HO2.out HOQ.out⟩
            · go_wp2
              go_ret
              exact ⟨⟨_, rfl, by simp only [Bool.false_eq_true, false_iff]; exact fun h => by have := h.2.2.2; omega⟩, on_new HO2.out HOQ.out⟩
          · have e1' : ¬ (k : Int) ≤ 60 := by omega
            go_wp2
            go_ret
            exact ⟨⟨_, rfl, by simp only [Bool.false_eq_true, false_iff]; exact fun h => by have := h.2.2.1; rw [HN.out] at this; omega⟩, on_new HO2.out HOQ.out⟩
end Go.Proofs.YtmadlckladohbaaGreat
