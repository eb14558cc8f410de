/-
  Encode.
-/
import Derived.Test.YtoghojgajpfkkaaGreatDoorRgx
import Derived.Test.YtoghojgajpfkkaaGreatDoorSer
set_option linter.unusedVariables false
namespace Go.Proofs.YtoghojgajpfkkaaGreatDoor
open Go.RowKit
attribute [local go_sem] run_store_func

/-- Is there a value too long for the leaf, with no place outside? -/
def anyU (l : List It) : Bool := l.any fun i => unp i.2.1.length i.2.2.2
set_option maxRecDepth 100000 in
set_option maxHeartbeats 3200000 in
theorem IndexU_c (w : World) (A : Option Addr) (n c : Nat) (l : List It) (hr : Its w (.slice A n c) l) (hn : n ≤ 1000) :
    Calls Tryz.prog 63 #[.slice A n c, .func (.func 27) #[] #[]] w fun e w' => ∃ z : Int, e = .returned (.int .i64 z) ∧ (0 ≤ z ↔ anyU l = true) ∧ Only (w.heap.size ≤ ·) w w' := by
  have HNL := Lib.hid hr.len
  have HR := Lib.hid hr
  have hcap := hr.cap
  clear hr
  go_enter Tryz.func63, Tryz.ntmps63
  go_wp2
  go_loopw [8] (fun i wr => ∃ k : Nat, k ≤ n ∧ i = .int .i64 k ∧ Hid (∀ q, q < k → ∀ y, l[q]? = some y → unp y.2.1.length y.2.2.2 = false) ∧ Only (w.heap.size ≤ ·) w wr) (fun i _ => n - (intOf i).toNat)
  case atStart => exact ⟨0, Nat.zero_le _, rfl, Lib.hid (fun q hq => by omega), Only.refl _ _⟩
  case round =>
    obtain ⟨k, hk, rfl, HU, ho⟩ := hrel
    have HO := Lib.hid ho
    clear ho
    by_cases hlt : k < n
    · obtain ⟨b1, off, y, P, Q, p, q, rfl, hbl, hy, q0, q1, q2, q3, _, _⟩ := its_at (HR.out.later HO.out) hlt
      obtain ⟨ks, vs, s, r⟩ := y
      obtain ⟨t, ht⟩ : ∃ t, t = ks.length := ⟨_, rfl⟩
      obtain ⟨u, hu⟩ : ∃ u, u = vs.length := ⟨_, rfl⟩
      simp only at q0 q1 q2 q3
      rw [← ht] at q0
      rw [← hu] at q1
      obtain ⟨ub, hub⟩ : ∃ b, b = unp u r := ⟨_, rfl⟩
      have HC : Hid (∀ W, Calls Tryz.prog 27 #[.agg #[.slice P t p, .slice Q u q, .int .i64 s, .int .i64 r]] W (Told W (.bool ub))) := Lib.hid fun W => by rw [hub]; exact unplaced_c W P Q t p u q s r
      have HY : Hid (ub = unp vs.length r) := Lib.hid (by rw [hub, hu])
      have HK := Lib.hid hy
      have hkc : (k : Int) < (n : Int) := by omega
      have j1 : (0 : Int) ≤ (k : Int) := by omega
      clear hy ht hu hub
      cases ub
      · go_wp2_with (go_at_call 27; (with_reducible refine (HC.out _).mono ?_); rintro e w2 ⟨rfl, ho⟩; have HO2 := Lib.hid (on_new HO.out ho); clear ho)
        go_roundw
        case rel => exact ⟨k + 1, by omega, by go_num, Lib.hid (fun q hq y hy => by
          by_cases hqk : q < k
          · exact HU.out q hqk y hy
          · obtain rfl : q = k := by omega
            rw [HK.out] at hy
            cases hy
            exact HY.out.symm), HO2.out⟩
        case measure => simp [intOf]; omega
      · go_wp2_with (go_at_call 27; (with_reducible refine (HC.out _).mono ?_); rintro e w2 ⟨rfl, ho⟩; have HO2 := Lib.hid (on_new HO.out ho); clear ho)
        go_ret
        refine ⟨_, rfl, ⟨fun _ => ?_, fun _ => by omega⟩, HO2.out⟩
        unfold anyU
        rw [List.any_eq_true]
        exact ⟨_, List.mem_of_getElem? HK.out, HY.out.symm⟩
    · have hkc : ¬ (k : Int) < (n : Int) := by omega
      go_wp2
      go_ret
      refine ⟨_, rfl, ⟨fun h => absurd h (by decide), fun h => ?_⟩, HO.out⟩
      unfold anyU at h
      rw [List.any_eq_true] at h
      obtain ⟨i, hi, h⟩ := h
      obtain ⟨q, hq, e⟩ := List.mem_iff_getElem.1 hi
      have := HU.out q (by have := HNL.out; omega) i (by rw [← e]; exact List.getElem?_eq_getElem hq)
      rw [this] at h
      cases h
theorem ContU_c (w : World) (A : Option Addr) (n c : Nat) (l : List It) (b : Bool) (hb : anyU l = b) (hr : Its w (.slice A n c) l) (hn : n ≤ 1000) :
    Calls Tryz.prog 26 #[.slice A n c, .func (.func 27) #[] #[]] w (Told w (.bool b)) := by
  have HC := Lib.hid (IndexU_c w A n c l hr hn)
  have HB := Lib.hid hb
  clear hr hb
  go_enter Tryz.func26, Tryz.ntmps26
  go_wp2_with (go_at_call 63; (with_reducible refine HC.out.mono ?_); rintro e w2 ⟨z, rfl, hz, ho⟩; have HZ := Lib.hid hz; clear hz)
  go_ret
  refine ⟨?_, ho⟩
  have hz := HZ.out
  rw [HB.out] at hz
  refine congrArg (fun x => Ending.returned (.bool x)) ?_
  cases b
  · simp at hz ⊢
    omega
  · simpa using hz

/-- A page's bytes, without its sum. -/
def rawB (g : Int) (x : Nd) : Bytes := padB 256 (headB (if x.leaf = true then 76 else 66) g.toNat (if x.leaf = true then x.its.length else x.kds.length) 0 ++ (x.its.flatMap (serI g) ++ x.kds.flatMap (serK g)))
/-- The page of a node. -/
def pageB (g : Int) (x : Nd) : Bytes := if g = 1 then rawB g x else sealB (rawB g x) 4
def encC (g : Int) (x : Nd) : Cur := x.kds.foldl (kdC g) (x.its.foldl (itD g) (stC (if x.leaf = true then 76 else 66) g (if x.leaf = true then (x.its.length : Int) else (x.kds.length : Int)) 0))
theorem RightN.its {g : Int} {x : Nd} (h : RightN g x) : ∀ i ∈ x.its, okay g i.1.length i.2.1.length i.2.2.1 i.2.2.2 = true := fun i hi => by
  obtain ⟨_, hp, he, _⟩ := h
  unfold PureR at hp
  unfold EachR at he
  by_cases hf : x.leaf = true
  · rw [if_pos hf] at he
    obtain ⟨k, hk, e⟩ := List.mem_iff_getElem.1 hi
    exact he k i (by rw [← e]; exact List.getElem?_eq_getElem hk)
  · rw [if_neg hf] at hp
    rw [hp.1] at hi
    cases hi
theorem RightN.kds {g : Int} {x : Nd} (h : RightN g x) : ∀ i ∈ x.kds, 0 ≤ i.2 ∧ i.2 < 16384 ∧ i.1.length < 256 := fun i hi => by
  obtain ⟨hg, hp, he, _⟩ := h
  unfold PureR at hp
  unfold EachR at he
  by_cases hf : x.leaf = true
  · rw [if_pos hf] at hp
    rw [hp] at hi
    cases hi
  · rw [if_neg hf] at he
    obtain ⟨k, hk, e⟩ := List.mem_iff_getElem.1 hi
    have := he k i (by rw [← e]; exact List.getElem?_eq_getElem hk)
    unfold KidR at this
    have t1 : tr g 16 20 24 ≤ 24 := by rcases (gen_iff g).1 hg with rfl | rfl | rfl <;> decide
    refine ⟨by omega, by omega, ?_⟩
    rcases Nat.eq_zero_or_pos k with h0 | h0
    · have := this.2.1 h0
      omega
    · have := (this.2.2 (by omega)).2
      omega
theorem RightN.nat {g : Int} {x : Nd} (h : RightN g x) : ∃ k : Nat, g = (k : Int) ∧ (k = 1 ∨ k = 2 ∨ k = 3) := by
  rcases (gen_iff g).1 h.1 with rfl | rfl | rfl
  · exact ⟨1, rfl, by decide⟩
  · exact ⟨2, rfl, by decide⟩
  · exact ⟨3, rfl, by decide⟩
/-- The entries have room behind the head. -/
theorem RightN.room {g : Int} {x : Nd} (h : RightN g x) : ((x.its.flatMap (serI g) ++ x.kds.flatMap (serK g)).length : Int) ≤ tr g 248 240 240 := by
  have hi := h.its
  obtain ⟨hg, hp, _, _, hf⟩ := h
  unfold nfit nrm rms at hf
  unfold PureR at hp
  rw [decide_eq_true_eq] at hf
  rw [List.length_append]
  by_cases hl : x.leaf = true
  · rw [if_pos hl] at hf hp
    rw [hp, List.flatMap_nil, List.length_nil, Nat.add_zero, sum_its hi]
    exact hf
  · rw [if_neg hl] at hf hp
    rw [hp.1, List.flatMap_nil, List.length_nil, Nat.zero_add, sum_kds hg]
    exact hf
theorem RightN.enc {g : Int} {x : Nd} (h : RightN g x) (h1 : x.its.length ≤ 1000) (h2 : x.kds.length ≤ 1000) : encC g x = ⟨rawB g x, (headB (if x.leaf = true then 76 else 66) g.toNat (if x.leaf = true then x.its.length else x.kds.length) 0 ++ (x.its.flatMap (serI g) ++ x.kds.flatMap (serK g))).length, false⟩ := by
  have hi := h.its
  have hk := h.kds
  have hr := h.room
  have hgen := h.1
  obtain ⟨k, rfl, hk3⟩ := h.nat
  rw [List.length_append] at hr
  have hh := headB_length (k := if x.leaf = true then 76 else 66) (n := if x.leaf = true then x.its.length else x.kds.length) (x := 0) (g := k) hgen
  have hh16 : (headB (if x.leaf = true then 76 else 66) k (if x.leaf = true then x.its.length else x.kds.length) 0).length + (tr (k : Int) 248 240 240).toNat = 256 := by
    rw [hh]
    rcases hk3 with rfl | rfl | rfl <;> rfl
  have hst : stC (if x.leaf = true then 76 else 66) (k : Int) (if x.leaf = true then (x.its.length : Int) else (x.kds.length : Int)) 0 = fill 256 (headB (if x.leaf = true then 76 else 66) k (if x.leaf = true then x.its.length else x.kds.length) 0) := by
    have hz : fits ((0 : Nat) : Int) (tr (k : Int) 4 8 8) = true := by rcases hk3 with rfl | rfl | rfl <;> rfl
    cases x.leaf
    · exact st_fill (k := 66) (n := x.kds.length) (x := 0) hgen (by decide) (by omega) hz
    · exact st_fill (k := 76) (n := x.its.length) (x := 0) hgen (by decide) (by omega) hz
  unfold encC
  rw [hst, its_fill hi (by omega), kds_fill hgen hk (by rw [List.length_append]; omega)]
  unfold fill rawB
  rw [Int.toNat_natCast, List.append_assoc]
theorem RightN.fin {g : Int} {x : Nd} (h : RightN g x) (h1 : x.its.length ≤ 1000) (h2 : x.kds.length ≤ 1000) : finB g (encC g x) = pageB g x ∧ finE (encC g x) = 0 := by
  rw [h.enc h1 h2]
  exact ⟨rfl, rfl⟩
theorem encC_len (g : Int) (x : Nd) : (encC g x).b.length = 256 := by
  have h1 : ∀ (l : List It) (c : Cur), c.b.length = 256 → (l.foldl (itD g) c).b.length = 256 := by
    intro l
    induction l with
    | nil => exact fun c h => h
    | cons i l ih =>
      intro c h
      refine ih _ ?_
      unfold itD itC
      split
      · rw [Cur.put_len, Cur.write_len, Cur.put_len, Cur.put_len, Cur.put_len, h]
      · rw [Cur.write_len, Cur.write_len, Cur.put_len, Cur.put_len, Cur.put_len, h]
  have h2 : ∀ (l : List Kd) (c : Cur), c.b.length = 256 → (l.foldl (kdC g) c).b.length = 256 := by
    intro l
    induction l with
    | nil => exact fun c h => h
    | cons i l ih =>
      intro c h
      refine ih _ ?_
      unfold kdC
      rw [Cur.put_len, Cur.write_len, Cur.put_len, h]
  unfold encC
  exact h2 _ _ (h1 _ _ (stC_len _ _ _ _))
theorem fold_take {α β : Type} {f : β → α → β} {l : List α} {c : β} {k : Nat} {y : α} (h : l[k]? = some y) : (l.take (k + 1)).foldl f c = f ((l.take k).foldl f c) y := by
  rw [List.take_add_one, h, List.foldl_append]
  rfl
/-- What Encode answers: the page, if the node may be, and has its values placed; else the error. -/
def GaveE (w : World) (g : Int) (x : Nd) (e : Ending) (w' : World) : Prop := ∃ b : Bool, (b = true ↔ RightN g x ∧ anyU x.its = false) ∧ GaveBE w (if b = true then pageB g x else []) (if b = true then 0 else 73) e w'
theorem okay_64 {g : Int} {n m : Nat} {s r : Int} (h : okay g n m s r = true) : I64 s ∧ I64 r := by
  unfold okay putOk long at h
  simp only [Bool.and_eq_true, decide_eq_true_eq] at h
  obtain ⟨hg, _, h1, h2⟩ := h
  have t2 : tr g 400 800 1600 ≤ 1600 := by rcases (gen_iff g).1 hg with rfl | rfl | rfl <;> decide
  unfold I64
  rcases h2 with ⟨e1, e2⟩ | ⟨e0, e1, e2, e3, _⟩
  · rw [e1, e2]
    omega
  · rw [if_neg e0] at h1
    omega
theorem Src.nofoot {w : World} {A : Option Addr} {n c p q : Nat} {xs : Bytes} (h : Src w (.slice A n c) xs) (hp : w.heap.size ≤ p) (hq : w.heap.size ≤ q) : ∀ ad, A = some ad → 0 < n → ¬ Foot p q ad.block := fun ad e hn hf => by
  obtain ⟨A', c', e2, ht, _⟩ := h
  simp only [Value.slice.injEq] at e2
  obtain ⟨rfl, rfl, rfl⟩ := e2
  subst e
  have := ht.block hn
  rcases hf with hf | hf <;> omega
set_option maxRecDepth 100000 in
set_option maxHeartbeats 12800000 in
theorem Encode_c (w : World) (g : Int) (A B : Option Addr) (n c m d : Nat) (f : Bool) (x : Nd) (hN : Nod w x f (.slice A n c) (.slice B m d)) (hG : Gens w) (hn : n ≤ 1000) (hm : m ≤ 1000) :
    Calls Tryz.prog 10 #[.int .i64 g, .agg #[.bool f, .slice A n c, .slice B m d]] w (GaveE w g x) := by
  obtain ⟨w0, hw0⟩ : ∃ w0, w0 = w.alloc (.cells #[.bool f, .slice A n c, .slice B m d] 28) := ⟨_, rfl⟩
  have HO : Hid (Only (w.heap.size ≤ ·) w w0) := Lib.hid (by rw [hw0]; exact (Only.refl _ w).alloc (fun _ h => h) _)
  have HI : Hid (Blk w0 w.heap.size 28 [.bool f, .slice A n c, .slice B m d]) := Lib.hid (by rw [hw0]; exact Blk.new w 28 _)
  have HNl := Lib.hid hN.2.1.len
  have HMl := Lib.hid hN.2.2.len
  have HF := Lib.hid hN.1
  have HN := Lib.hid hN
  have HGN := Lib.hid hG
  have hcap1 := hN.2.1.cap
  have hcap2 := hN.2.2.cap
  have HRG : Hid (∀ W, Only (w.heap.size ≤ ·) w W → Calls Tryz.prog 25 #[.int .i64 g, .agg #[.bool f, .slice A n c, .slice B m d]] W (AnsB W (fun b => b = true ↔ RightN g x))) := Lib.hid fun W hW => Right_x W A B n c m d x g f (hN.later hW) (hG.later hW) hn hm
  obtain ⟨ub, hub⟩ : ∃ b, anyU x.its = b := ⟨_, rfl⟩
  have HCU : Hid (∀ W, Only (w.heap.size ≤ ·) w W → Calls Tryz.prog 26 #[.slice A n c, .func (.func 27) #[] #[]] W (Told W (.bool ub))) := Lib.hid fun W hW => ContU_c W A n c x.its ub hub (hN.2.1.later hW) hn
  obtain ⟨kk, hkk⟩ : ∃ z : Int, z = if f = true then 76 else 66 := ⟨_, rfl⟩
  obtain ⟨nn, hnn⟩ : ∃ z : Int, z = if f = true then (n : Int) else (m : Int) := ⟨_, rfl⟩
  have HHF : Hid (∀ W, Calls Tryz.prog 29 #[.int .i64 g, .agg #[.bool f, .slice A n c, .slice B m d]] W (Told W (.agg #[.int .i64 kk, .int .i64 g, .int .i64 nn, .int .i64 0]))) := Lib.hid fun W => by rw [hkk, hnn]; exact headFor_c W g f A B n c m d
  have HKN : Hid (I64 kk ∧ I64 nn) := Lib.hid (by rw [hkk, hnn]; unfold I64; cases f <;> simp <;> omega)
  obtain ⟨C0, hC0⟩ : ∃ C0, C0 = stC kk g nn 0 := ⟨_, rfl⟩
  have HST : Hid (∀ W, I64 g → Only (w.heap.size ≤ ·) w W → Calls Tryz.prog 28 #[.agg #[.int .i64 kk, .int .i64 g, .int .i64 nn, .int .i64 0]] W (Made W 115 C0)) := Lib.hid fun W h64 hW => by rw [hC0]; exact start_c W kk g nn 0 (hG.later hW) HKN.out.1 h64 HKN.out.2 (by unfold I64; omega)
  have HEC : Hid (encC g x = x.kds.foldl (kdC g) (x.its.foldl (itD g) C0)) := Lib.hid (by
    rw [hC0, hkk, hnn]
    unfold encC
    rw [← HF.out, ← HNl.out, ← HMl.out])
  clear hkk hnn hC0
  have HUB := Lib.hid hub
  clear hub hN hG
  obtain ⟨i0, i1, i2⟩ := HI.out.tri
  go_enter Tryz.func10, Tryz.ntmps10
  go_upto_region 1 with (fail)
  rw [← hw0]
  clear hw0
  cases ub
  rotate_left
  · go_wp2_with (first
      | (go_at_call 25; (with_reducible refine (HRG.out _ HO.out).mono ?_); rintro e w1 ⟨rb, rfl, hrb, ho⟩; (replace HO := Lib.hid (on_new HO.out ho)); (replace HI := Lib.hid (HI.out.later ho)); clear ho i0 i1 i2; (obtain ⟨i0, i1, i2⟩ := HI.out.tri); cases rb)
      | (go_at_call 26; (with_reducible refine (HCU.out _ HO.out).mono ?_); rintro e w2 ⟨rfl, ho⟩; (replace HO := Lib.hid (on_new HO.out ho)); clear ho))
    all_goals
      go_ret2
      exact ⟨false, by rw [HUB.out]; simp, _, rfl, Src.nil_ _, HO.out⟩
  go_upto_region 3 with (first
    | (go_at_call 25; (with_reducible refine (HRG.out _ HO.out).mono ?_); rintro e w1 ⟨rb, rfl, hrb, ho⟩; have HRB := Lib.hid hrb; (replace HO := Lib.hid (on_new HO.out ho)); (replace HI := Lib.hid (HI.out.later ho)); clear ho i0 i1 i2 hrb; (obtain ⟨i0, i1, i2⟩ := HI.out.tri); cases rb)
    | (go_at_call 26; (with_reducible refine (HCU.out _ HO.out).mono ?_); rintro e w2 ⟨rfl, ho⟩; (replace HO := Lib.hid (on_new HO.out ho)); (replace HI := Lib.hid (HI.out.later ho)); clear ho i0 i1 i2; (obtain ⟨i0, i1, i2⟩ := HI.out.tri)))
  · go_ret2
    exact ⟨false, ⟨fun h => (by simp at h), fun h => absurd (HRB.out.2 h.1) (by simp)⟩, _, rfl, Src.nil_ _, HO.out⟩
  have HRN : Hid (RightN g x) := Lib.hid (HRB.out.1 (by simp))
  have HGI : Hid (I64 g) := Lib.hid (by unfold I64; rcases (gen_iff g).1 HRN.out.1 with h | h | h <;> omega)
  clear HRB HRG HCU
  go_wp2_with (first
    | (go_at_call 29; (with_reducible refine (HHF.out _).mono ?_); rintro e w3 ⟨rfl, ho⟩; (replace HO := Lib.hid (on_new HO.out ho)); (replace HI := Lib.hid (HI.out.later ho)); clear ho i0 i1 i2; (obtain ⟨i0, i1, i2⟩ := HI.out.tri))
    | (go_at_call 28; (with_reducible refine (HST.out _ HGI.out HO.out).mono ?_); rintro e w4 ⟨p, q, rfl, hp, hq, hh, ho, hql⟩; have HH := Lib.hid hh; have HQL := Lib.hid hql; have HP := Lib.hid (Nat.lt_of_lt_of_le HI.out.lt hp); have HQ := Lib.hid (Nat.lt_of_lt_of_le HI.out.lt hq); (replace HO := Lib.hid (on_new HO.out ho)); (replace HI := Lib.hid (HI.out.later ho)); clear ho hh hp hq hql i0 i1 i2; (obtain ⟨i0, i1, i2⟩ := HI.out.tri)))
  clear HHF HST
  have KO : Hid (∀ W, Only (fun j => Foot p q j ∨ w4.heap.size ≤ j) w4 W → Only (w.heap.size ≤ ·) w W) := Lib.hid fun W hW => HO.out.trans (hW.mono fun j hj => by
    have h1 := HP.out
    have h2 := HQ.out
    have h3 := HO.out.size
    rcases hj with (hj | hj) | hj <;> omega)
  have KI : Hid (∀ W, Only (fun j => Foot p q j ∨ w4.heap.size ≤ j) w4 W → Blk W w.heap.size 28 [.bool f, .slice A n c, .slice B m d]) := Lib.hid fun W hW => HI.out.only hW fun hj => by
    have h1 := HP.out
    have h2 := HQ.out
    have h3 := HI.out.lt
    rcases hj with (hj | hj) | hj <;> omega
  clear i0 i1 i2
  go_loopw [27] (fun i wr => ∃ k : Nat, k ≤ n ∧ i = .int .i64 k ∧ Hid (Holds wr p q 115 ((x.its.take k).foldl (itD g) C0) ∧ q < wr.heap.size ∧ Only (fun j => Foot p q j ∨ w4.heap.size ≤ j) w4 wr)) (fun i _ => n - (intOf i).toNat)
  case atStart => exact ⟨0, Nat.zero_le _, rfl, Lib.hid ⟨HH.out, HQL.out, Only.refl _ _⟩⟩
  case round =>
    obtain ⟨k, hk, rfl, HU⟩ := hrel
    have HOW := Lib.hid (KO.out _ HU.out.2.2)
    by_cases hlt : k < n
    · obtain ⟨b1, off, y, P, Q, pc, qc, rfl, hbl, hy, c0, c1, c2, c3, hs1, hs2⟩ := its_at HN.out.2.1 hlt
      obtain ⟨ks, vs, s, r⟩ := y
      simp only at c0 c1 c2 c3 hs1 hs2
      have q0 := (HOW.out.cell (p := ⟨b1, off + k * 4, none⟩) (Nat.not_le.2 hbl)).trans c0
      have q1 := (HOW.out.cell (p := ⟨b1, off + k * 4 + 1, none⟩) (Nat.not_le.2 hbl)).trans c1
      have q2 := (HOW.out.cell (p := ⟨b1, off + k * 4 + 2, none⟩) (Nat.not_le.2 hbl)).trans c2
      have q3 := (HOW.out.cell (p := ⟨b1, off + k * 4 + 3, none⟩) (Nat.not_le.2 hbl)).trans c3
      have h64 : I64 s ∧ I64 r := okay_64 (HRN.out.its _ (List.mem_of_getElem? hy))
      have HPI : Hid (∀ o, Calls Tryz.prog 30 #[.pointer (some ⟨p, 0, none⟩), .int .i64 g, .agg #[.slice P ks.length pc, .slice Q vs.length qc, .int .i64 s, .int .i64 r]] (wr.alloc o) fun e w' => e = .returned (.tuple #[]) ∧ Holds w' p q 115 ((x.its.take (k + 1)).foldl (itD g) C0) ∧ q < w'.heap.size ∧ Only (fun j => Foot p q j ∨ w4.heap.size ≤ j) w4 w') := Lib.hid fun o => by
        have ha : Only (wr.heap.size ≤ ·) wr (wr.alloc o) := (Only.refl _ _).alloc (fun _ h => h) o
        have hz := ha.size
        have hw4 := HU.out.2.2.size
        have hin : ∀ W, Only (fun j => Foot p q j ∨ (wr.alloc o).heap.size ≤ j) (wr.alloc o) W → Only (fun j => Foot p q j ∨ w4.heap.size ≤ j) w4 W := fun W hW =>
          HU.out.2.2.trans ((ha.mono fun j hj => Or.inr (Nat.le_trans hw4 hj)).trans (hW.mono fun j hj => hj.elim Or.inl fun e => Or.inr (by omega)))
        have hpq : w.heap.size ≤ p ∧ w.heap.size ≤ q := ⟨Nat.le_of_lt HP.out, Nat.le_of_lt HQ.out⟩
        rw [fold_take hy]
        refine (putItem_c (wr.alloc o) p q _ g P Q ks.length pc vs.length qc s r ks vs (HU.out.1.later ha) (Nat.lt_of_lt_of_le HU.out.2.1 hz) (fun W hW => HGN.out.later (KO.out _ (hin W hW))) (fun W hW => hs1.later (KO.out _ (hin W hW))) (fun W hW => hs2.later (KO.out _ (hin W hW))) (hs1.nofoot hpq.1 hpq.2) (hs2.nofoot hpq.1 hpq.2) h64.1 h64.2).mono ?_
        rintro e w' ⟨rfl, hh, ho⟩
        exact ⟨rfl, hh, Nat.lt_of_lt_of_le (Nat.lt_of_lt_of_le HU.out.2.1 hz) ho.size, hin _ ho⟩
      have hkc : (k : Int) < (n : Int) := by omega
      have j1 : (0 : Int) ≤ (k : Int) := by omega
      clear hs1 hs2 c2 c3 c0 c1 hy h64
      go_wp2_with (go_at_call 30; (with_reducible refine (HPI.out _).mono ?_); rintro e w6 ⟨rfl, hu⟩; have HU2 := Lib.hid hu; clear hu)
      go_roundw
      case rel => exact ⟨k + 1, by omega, by go_num, HU2⟩
      case measure => simp [intOf]; omega
    · obtain rfl : n = k := by omega
      have hkc : ¬ (n : Int) < (n : Int) := by omega
      obtain ⟨i0, i1, i2⟩ := (KI.out _ HU.out.2.2).tri
      obtain ⟨C1, hC1⟩ : ∃ C1, C1 = x.its.foldl (itD g) C0 := ⟨_, rfl⟩
      have HU1 : Hid (Holds wr p q 115 C1 ∧ q < wr.heap.size ∧ Only (fun j => Foot p q j ∨ w4.heap.size ≤ j) w4 wr) := Lib.hid (by
        have := HU.out
        rwa [List.take_of_length_le (Nat.le_of_eq HNl.out.symm), ← hC1] at this)
      have HEC1 : Hid (encC g x = x.kds.foldl (kdC g) C1) := Lib.hid (by rw [hC1]; exact HEC.out)
      clear HU HEC hC1
      go_wp2
      obtain ⟨w5, hw5⟩ : ∃ w5, w5 = wr := ⟨_, rfl⟩
      subst hw5
      have KO2 : Hid (∀ W, Only (fun j => Foot p q j ∨ w5.heap.size ≤ j) w5 W → Only (w.heap.size ≤ ·) w W) := Lib.hid fun W hW => KO.out W (HU1.out.2.2.trans (hW.mono fun j hj => hj.elim Or.inl fun e => Or.inr (Nat.le_trans HU1.out.2.2.size e)))
      clear i0 i1 i2 KO KI hkc HOW
      go_loopw [39] (fun i wr => ∃ k : Nat, k ≤ m ∧ i = .int .i64 k ∧ Hid (Holds wr p q 115 ((x.kds.take k).foldl (kdC g) C1) ∧ q < wr.heap.size ∧ Only (fun j => Foot p q j ∨ w5.heap.size ≤ j) w5 wr)) (fun i _ => m - (intOf i).toNat)
      case atStart => exact ⟨0, Nat.zero_le _, rfl, Lib.hid ⟨HU1.out.1, HU1.out.2.1, Only.refl _ _⟩⟩
      case round =>
        obtain ⟨k, hk, rfl, HU⟩ := hrel
        have HOW := Lib.hid (KO2.out _ HU.out.2.2)
        by_cases hlt : k < m
        · obtain ⟨b1, off, y, P, pc, rfl, hbl, hy, c0, c1, hs1⟩ := kds_at HN.out.2.2 hlt
          obtain ⟨ks, r⟩ := y
          simp only at c0 c1 hs1
          have q0 := (HOW.out.cell (p := ⟨b1, off + k * 2, none⟩) (Nat.not_le.2 hbl)).trans c0
          have q1 := (HOW.out.cell (p := ⟨b1, off + k * 2 + 1, none⟩) (Nat.not_le.2 hbl)).trans c1
          have h64 : I64 r := by have := HRN.out.kds _ (List.mem_of_getElem? hy); unfold I64; simp only at this; omega
          have HPI : Hid (∀ o, Calls Tryz.prog 31 #[.pointer (some ⟨p, 0, none⟩), .int .i64 g, .agg #[.slice P ks.length pc, .int .i64 r]] (wr.alloc o) fun e w' => e = .returned (.tuple #[]) ∧ Holds w' p q 115 ((x.kds.take (k + 1)).foldl (kdC g) C1) ∧ q < w'.heap.size ∧ Only (fun j => Foot p q j ∨ w5.heap.size ≤ j) w5 w') := Lib.hid fun o => by
            have ha : Only (wr.heap.size ≤ ·) wr (wr.alloc o) := (Only.refl _ _).alloc (fun _ h => h) o
            have hz := ha.size
            have hw4 := HU.out.2.2.size
            have hin : ∀ W, Only (fun j => Foot p q j ∨ (wr.alloc o).heap.size ≤ j) (wr.alloc o) W → Only (fun j => Foot p q j ∨ w5.heap.size ≤ j) w5 W := fun W hW =>
              HU.out.2.2.trans ((ha.mono fun j hj => Or.inr (Nat.le_trans hw4 hj)).trans (hW.mono fun j hj => hj.elim Or.inl fun e => Or.inr (by omega)))
            have hpq : w.heap.size ≤ p ∧ w.heap.size ≤ q := ⟨Nat.le_of_lt HP.out, Nat.le_of_lt HQ.out⟩
            rw [fold_take hy]
            refine (putKid_c (wr.alloc o) p q _ g r P ks.length pc ks (HU.out.1.later ha) (Nat.lt_of_lt_of_le HU.out.2.1 hz) (fun W hW => HGN.out.later (KO2.out _ (hin W hW))) (fun W hW => hs1.later (KO2.out _ (hin W hW))) (hs1.nofoot hpq.1 hpq.2) h64).mono ?_
            rintro e w' ⟨rfl, hh, ho⟩
            exact ⟨rfl, hh, Nat.lt_of_lt_of_le (Nat.lt_of_lt_of_le HU.out.2.1 hz) ho.size, hin _ ho⟩
          have hkc : (k : Int) < (m : Int) := by omega
          have j1 : (0 : Int) ≤ (k : Int) := by omega
          clear hs1  c0 c1 hy h64
          go_wp2_with (go_at_call 31; (with_reducible refine (HPI.out _).mono ?_); rintro e w6 ⟨rfl, hu⟩; have HU2 := Lib.hid hu; clear hu)
          go_roundw
          case rel => exact ⟨k + 1, by omega, by go_num, HU2⟩
          case measure => simp [intOf]; omega
        · obtain rfl : m = k := by omega
          have hkc : ¬ (m : Int) < (m : Int) := by omega
          obtain ⟨CE, hCE⟩ : ∃ CE, CE = encC g x := ⟨_, rfl⟩
          have HH2 : Hid (Holds wr p q 115 CE) := Lib.hid (by
            have := HU.out.1
            rwa [List.take_of_length_le (Nat.le_of_eq HMl.out.symm), ← HEC1.out, ← hCE] at this)
          have HCL : Hid (CE.b.length ≤ 65536) := Lib.hid (by rw [hCE, encC_len]; decide)
          have HFN : Hid (finB g CE = pageB g x ∧ finE CE = 0) := Lib.hid (by rw [hCE]; exact HRN.out.fin (by rw [← HNl.out]; exact hn) (by rw [← HMl.out]; exact hm))
          clear hCE
          have HFI : Hid (Calls Tryz.prog 32 #[.int .i64 g, .pointer (some ⟨p, 0, none⟩)] wr (GaveBE wr (pageB g x) 0)) := Lib.hid (by have := finish_c wr p q g CE HH2.out HCL.out; rwa [HFN.out.1, HFN.out.2] at this)
          go_wp2_with (go_at_call 32; (with_reducible refine HFI.out.mono ?_); rintro e w7 ⟨v, rfl, hv, ho⟩; have HV := Lib.hid hv; (replace HOW := Lib.hid (on_new HOW.out ho)); clear hv ho)
          go_ret2
          exact ⟨true, ⟨fun _ => ⟨HRN.out, HUB.out⟩, fun _ => rfl⟩, v, rfl, HV.out, HOW.out⟩
end Go.Proofs.YtoghojgajpfkkaaGreatDoor
