/-
  down: from the root to a leaf.
-/
import Derived.Test.YtnjhpjpeeehagaaTak
set_option linter.unusedVariables false
namespace Go.Proofs.Ytnjhpjpeeehagaa
open Go.RowKit

def kidRef (x : Nd) (i : Nat) : Int := ((x.kds[i]?).map (·.2)).getD 0
/-- The way down, or why there is none: so many nodes at most. -/
def downP (l : List Nm) (ch : Nd → Nat) : Nat → Int → Int × List Sp
  | 0, _ => (130, [])
  | k + 1, ref => match nodeP l ref with
    | none => (11, [])
    | some x => if x.leaf = false ∧ x.kds = [] then (131, []) else if x.leaf = true then (0, [(ref, x, (ch x : Int))]) else
        if (downP l ch k (kidRef x (ch x))).1 = 0 then (0, (ref, x, (ch x : Int)) :: (downP l ch k (kidRef x (ch x))).2) else ((downP l ch k (kidRef x (ch x))).1, [])
def joinP (a : List Sp) (q : Int × List Sp) : Int × List Sp := if q.1 = 0 then (0, a ++ q.2) else (q.1, [])
theorem down_none {l : List Nm} {ch : Nd → Nat} {k : Nat} {ref : Int} (h : nodeP l ref = none) : downP l ch (k + 1) ref = (11, []) := by rw [downP, h]
theorem down_bare {l : List Nm} {ch : Nd → Nat} {k : Nat} {ref : Int} {x : Nd} (h : nodeP l ref = some x) (h1 : x.leaf = false) (h2 : x.kds = []) : downP l ch (k + 1) ref = (131, []) := by
  rw [downP, h]
  simp only
  rw [if_pos ⟨h1, h2⟩]
theorem down_leaf {l : List Nm} {ch : Nd → Nat} {k : Nat} {ref : Int} {x : Nd} (h : nodeP l ref = some x) (h1 : x.leaf = true) : downP l ch (k + 1) ref = (0, [(ref, x, (ch x : Int))]) := by
  rw [downP, h]
  simp only
  rw [if_neg (fun h => by rw [h1] at h; cases h.1), if_pos h1]
theorem down_kid {l : List Nm} {ch : Nd → Nat} {k : Nat} {ref : Int} {x : Nd} (a : List Sp) (h : nodeP l ref = some x) (h1 : x.leaf = false) (h2 : x.kds ≠ []) : joinP a (downP l ch (k + 1) ref) = joinP (a ++ [(ref, x, (ch x : Int))]) (downP l ch k (kidRef x (ch x))) := by
  rw [downP, h]
  simp only
  rw [if_neg (fun h => h2 h.2), if_neg (fun h => by rw [h1] at h; cases h)]
  unfold joinP
  by_cases hq : (downP l ch k (kidRef x (ch x))).1 = 0
  · rw [if_pos hq, if_pos hq, if_pos rfl]
    simp
  · rw [if_neg hq, if_neg hq, if_neg hq]
/-- What is chosen, by a function that is handed in. -/
inductive Vis (l : List Nm) (root : Int) : Int → Prop
  | root : Vis l root root
  | kid {ref : Int} {x : Nd} {y : Kd} : Vis l root ref → nodeP l ref = some x → x.leaf = false → y ∈ x.kds → Vis l root y.2
structure Chs (w : World) (F : Nat) (caps : Array Value) (ch : Nd → Nat) (ok : Nd → Prop) : Prop where
  enters : ∀ args w, (callFunc F args).run Try.prog w = .ok (.enter F args) w
  call : ∀ W, Only (w.heap.size ≤ ·) w W → ∀ x f A n c B m d, Nod W x f (.slice A n c) (.slice B m d) → Sml x → (x.leaf = true ∨ x.kds ≠ []) → ok x → Calls Try.prog F (#[.agg #[.bool f, .slice A n c, .slice B m d]] ++ caps) W (Told W (.int .i64 (ch x : Int)))
  small : ∀ x, x.leaf = false → x.kds ≠ [] → ch x < x.kds.length
def DownSays (w : World) (r : Int × List Sp) (e : Ending) (w' : World) : Prop :=
  (∃ A n c er path, e = .returned (.tuple #[.slice A n c, .int .i64 er]) ∧ (er, path) = r ∧ Sps w' (.slice A n c) path) ∧ Only (w.heap.size ≤ ·) w w'
theorem func_nil_d (f : Nat) (lb : Array Value) (d : Nat) (w : World) : (Op.equalIn (d + 1) 32 (.func (.func f) #[] lb) Value.nilFunc).run Try.prog w = .ok false w := by
  simp [Op.equalIn, run_underlying Try.underlying32]
theorem func_nil (f : Nat) (lb : Array Value) (w : World) : (binOp .eql 32 (.func (.func f) #[] lb) Value.nilFunc).run Try.prog w = .ok (.bool false) w := by
  simp only [binOp]
  simp [Op.equal, Op.maxDepth, func_nil_d f lb 9999 w]
theorem down_err {l : List Nm} {ch : Nd → Nat} : ∀ (k : Nat) (r : Int), (downP l ch k r).1 ≠ 0 → (downP l ch k r).2 = []
  | 0, r, _ => rfl
  | k + 1, r, h => by
    rw [downP] at h ⊢
    cases hno : nodeP l r with
    | none => rfl
    | some x =>
      rw [hno] at h
      simp only at h ⊢
      split at h
      · rw [if_pos (by assumption)]
      · rw [if_neg (by assumption)]
        split at h
        · exact absurd rfl h
        · rw [if_neg (by assumption)]
          split at h
          · exact absurd rfl h
          · rw [if_neg (by assumption)]
theorem joinP_nil {l : List Nm} {ch : Nd → Nat} (k : Nat) (r : Int) : joinP [] (downP l ch k r) = downP l ch k r := by
  unfold joinP
  by_cases h : (downP l ch k r).1 = 0
  · rw [if_pos h, List.nil_append, ← h]
  · rw [if_neg h, ← down_err k r h]
def zS : Value := .agg #[.int .i64 0, .bool false, .slice none 0 0, .slice none 0 0, .int .i64 0]
theorem info_S : (Try.prog.info? 106).map (fun i => (i.zero, i.size, i.bytes)) = some (some zS, 5, 72) := by kernel_rfl

set_option maxRecDepth 100000 in
set_option maxHeartbeats 25600000 in
theorem down_c (w : World) (bl : Nat) (A0 : Option Addr) (n0 c0 : Nat) (root : Int) (l : List Nm) (F : Nat) (caps : Array Value) (ch : Nd → Nat) (hb : Blk w bl 22 [.slice A0 n0 c0]) (h : Nms w (.slice A0 n0 c0) l) (hf : FewN l) {ok : Nd → Prop} (hc : Chs w F caps ch ok) (hok : ∀ ref x, Vis l root ref → nodeP l ref = some x → ok x) :
    Calls Try.prog 40 #[srcV bl, .int .i64 root, .func (.func F) #[] caps] w (DownSays w (downP l ch 12 root)) := by
  obtain ⟨i1, hi0, hz0, hz1, hz2⟩ := info_parts info_S
  have HI1 := Lib.hid (And.intro hi0 (And.intro hz0 (And.intro hz1 hz2)))
  clear hi0 hz0 hz1 hz2
  have eg := hc.enters
  have HBL := Lib.hid hb
  have HNM := Lib.hid h
  have HFW := Lib.hid hf
  have HCH := Lib.hid hc
  have HOK := Lib.hid hok
  have hfn := func_nil 26 #[.pointer (some ⟨bl, 0, none⟩)]
  clear hb h hf hc hok
  unfold srcV
  go_enter Try.func40, Try.ntmps40
  go_wp2_with (fail)
  go_loopg [8, 9] 12 (fun gk pv rv wr => ∃ (k : Nat) (ref : Int) (acc : List Sp) (C : List Value) (A : Option Addr) (c : Nat), gk = 12 - k ∧ k ≤ 12 ∧ pv = .slice A k c ∧ rv = .int .i64 ref ∧ Hid (k = acc.length) ∧ Hid (wr.ownsRow w.heap.size 106 5 (.slice A k c) k C) ∧ Hid (Den (spEk.K w.heap.size (Value.slice A k c).ownBlock wr) acc C) ∧ Hid (downP l ch 12 root = joinP acc (downP l ch (12 - k) ref)) ∧ Hid (Vis l root ref) ∧ Hid (Only (w.heap.size ≤ ·) w wr))
  case atStart => exact ⟨0, root, [], [], none, 0, rfl, by omega, rfl, rfl, Lib.hid rfl, Lib.hid (World.ownsRow_nil _ _ _ _), Lib.hid rfl, Lib.hid (joinP_nil 12 root).symm, Lib.hid Vis.root, Lib.hid (Only.refl _ _)⟩
  case round =>
    obtain ⟨k, ref, acc, C, A, c, rfl, hk, rfl, rfl, HKL, HROW, HDEN, HD, HVI, HO⟩ := hrel
    by_cases hlt : k < 12
    · have hlt' : (k : Int) < 12 := by omega
      obtain ⟨kf, hkf⟩ : ∃ kf, 12 - k = kf + 1 := ⟨11 - k, by omega⟩
      rw [hkf] at HD
      have HKF := Lib.hid hkf
      clear hkf
      cases hno : nodeP l ref with
      | none =>
        rw [down_none hno] at HD
        go_wp2_with (go_at_call 48; ((with_reducible refine (ask_c _ bl A0 n0 c0 ref l (HBL.out.later HO.out) (HNM.out.later HO.out) HFW.out).mono ?_); rintro e w2 ⟨⟨f, P, p, pc, Q, q, qc, er, rfl, her, hnk⟩, ho⟩; rw [hno] at her hnk; simp only [Option.isSome_none, Bool.false_eq_true, if_false] at her; subst her; have HNK := Lib.hid hnk; have HO2 := Lib.hid ho; replace HO := Lib.hid (on_new HO.out ho); clear hnk ho))
        go_ret2
        exact ⟨⟨none, 0, 0, 11, [], rfl, HD.out.symm, Rw.nil_ _⟩, HO.out.alloc (fun _ h => h) _⟩
      | some x =>
        have HOO := HO
        have HSM : Hid (Sml x) := Lib.hid (by have := HFW.out.get ref; rw [hno] at this; exact this)
        go_upto_region 7 with (go_at_call 48; ((with_reducible refine (ask_c _ bl A0 n0 c0 ref l (HBL.out.later HO.out) (HNM.out.later HO.out) HFW.out).mono ?_); rintro e w2 ⟨⟨f, P, p, pc, Q, q, qc, er, rfl, her, hnk⟩, ho⟩; rw [hno] at her hnk; simp only [Option.isSome_some, if_true] at her; subst her; have HNK := Lib.hid hnk; have HO2 := Lib.hid ho; replace HO := Lib.hid (on_new HO.out ho); clear hnk ho))
        have HLF : Hid (f = x.leaf) := Lib.hid HNK.out.now.1
        obtain rfl := HLF.out
        obtain ⟨lf, hlf⟩ : ∃ b, b = x.leaf := ⟨_, rfl⟩
        have HLE := Lib.hid hlf
        rw [← hlf] at HNK ⊢
        have HQL : Hid (q = x.kds.length) := Lib.hid HNK.out.now.2.2.len
        obtain ⟨w3, hw3⟩ : ∃ x, x = w2.alloc (.cells #[.bool lf, .slice P p pc, .slice Q q qc] 55) := ⟨_, rfl⟩
        obtain ⟨b3, hb3⟩ : ∃ x, x = w2.heap.size := ⟨_, rfl⟩
        have Hb3 : Hid (Blk w3 b3 55 [.bool lf, .slice P p pc, .slice Q q qc]) := Lib.hid (by rw [hw3, hb3]; exact Blk.new w2 _ [.bool lf, .slice P p pc, .slice Q q qc])
        have HXb3 : Hid (Only (w2.heap.size ≤ ·) w2 w3) := Lib.hid (by rw [hw3]; exact (Only.refl _ w2).alloc (fun _ h => h) _)
        have HEQb3 : Hid (w3 = w2.alloc (.cells #[.bool lf, .slice P p pc, .slice Q q qc] 55) ∧ b3 = w2.heap.size) := Lib.hid ⟨hw3, hb3⟩
        clear hw3 hb3
        have HNK3 := Lib.hid (HNK.out.later HXb3.out)
        have HR3 := Lib.hid (own_later (own_later HROW.out HO2.out) HXb3.out)
        replace HO := Lib.hid (on_new HO.out HXb3.out)
        rw [← HEQb3.out.1, ← HEQb3.out.2]
        obtain ⟨q0, q1, q2⟩ := Hb3.out.tri
        by_cases hbare : x.leaf = false ∧ x.kds = []
        · rw [down_bare hno hbare.1 hbare.2] at HD
          obtain rfl : lf = false := hlf.trans hbare.1
          obtain rfl : q = 0 := by rw [HQL.out, hbare.2]; rfl
          clear hlf hbare
          go_wp2_with (fail)
          go_ret2
          exact ⟨⟨none, 0, 0, 131, [], rfl, HD.out.symm, Rw.nil_ _⟩, HO.out⟩
        · have hor : x.leaf = true ∨ x.kds ≠ [] := by
            cases hl : x.leaf with
            | true => exact .inl rfl
            | false => exact .inr fun h => hbare ⟨hl, h⟩
          have HCC := Lib.hid (HCH.out.call w3 HO.out x lf P p pc Q q qc HNK3.out.now HSM.out hor (HOK.out ref x HVI.out hno))
          obtain ⟨kk, hkk⟩ : ∃ kk, kk = ch x := ⟨_, rfl⟩
          rw [← hkk] at HCC
          have HKK := Lib.hid hkk
          have HB0 := Lib.hid HNK3.out
          cases lf with
          | true =>
            have hlx : x.leaf = true := hlf.symm
            rw [down_leaf hno hlx, ← hkk] at HD
            clear hkk hlf hor hbare
            have HO0 := HOO
            go_wp2_with (first
              | (go_at_fn F; refine HCC.out.mono ?_; rintro e w4 ⟨rfl, ho⟩; have HB4 := Lib.hid (Hb3.out.later ho); have HNK4 := Lib.hid (HNK3.out.later ho); have HR4 := Lib.hid (own_later HR3.out ho); have HO4 := Lib.hid (on_new HO.out ho); have HX4 : Hid (Only (wr.heap.size ≤ ·) wr w4) := Lib.hid (on_new (on_new HO2.out HXb3.out) ho); have HBL4 : Hid (Blk (w4.alloc (.cells #[.int .i64 ref, .bool true, .slice P p pc, .slice Q q qc, .int .i64 (kk : Int)] 106)) w4.heap.size 106 [.int .i64 ref, .bool true, .slice P p pc, .slice Q q qc, .int .i64 (kk : Int)]) := Lib.hid (Blk.new w4 _ _); clear q0 q1 q2; (obtain ⟨q0, q1, q2⟩ := HB4.out.tri); clear ho)
              | (at_builtin; go_loud (refine wpList_append_at rfl (.tmp 40) (.tmp 45) 73 rfl w.heap.size 106 i1 zS 5 72 Try.underlying73 HI1.out.1 HI1.out.2.1 HI1.out.2.2.1 HI1.out.2.2.2 (by rfl) (by omega) (.slice A k c) k C rfl (World.ownsRow.alloc HR4.out _) ⟨w4.heap.size, 0, none⟩ 1 1 [.int .i64 ref, .bool true, .slice P p pc, .slice Q q qc, .int .i64 (kk : Int)] rfl rfl (fun j u hu => by rw [Addr.add_lit, HBL4.out.cell, Nat.zero_add]; exact hu) (by simp [Value.oneCell']) (by simp only [maxLen]; omega) (by omega) (by have := HO4.out.size; simp; omega) ?_; intro v' w' ho' hg' hat'; (obtain ⟨R2, t2, rfl, _⟩ := raw_of_own ho'); have HGD := Lib.hid (grow_den (Y := spEk) (x := (ref, x, (kk : Int))) (ob0 := none) HROW.out HDEN.out HO0.out.size HX4.out ⟨true, _, _, rfl, HNK4.out⟩ hg' hat'); have HROW2 := Lib.hid ho'; have HOF : Hid (Only (w.heap.size ≤ ·) w w') := Lib.hid (HO0.out.trans (HGD.out.2.1.mono fun j hj => hj.elim (fun h => (World.ownsRow.lt HROW.out j h).1) fun h => Nat.le_trans HO0.out.size h)); have HNF : Hid (Nod w' x true (.slice P p pc) (.slice Q q qc)) := Lib.hid (HNK4.out.at_ w' (HGD.out.2.2.mono fun j hj => hj.elim (fun h => .inl (World.ownsRow.lt HROW.out j h).2) fun h => .inr (.inr h))); have HB3F : Hid (Blk w' b3 55 [.bool true, .slice P p pc, .slice Q q qc]) := Lib.hid ((HB4.out.alloc (.cells #[.int .i64 ref, .bool true, .slice P p pc, .slice Q q qc, .int .i64 (kk : Int)] 106)).grown hg' (own_ne HR4.out HB4.out (by decide))); (obtain ⟨q0, q1, q2⟩ := HB3F.out.tri);  clear ho' hg' hat')))
            have HSP : Hid (Sps w' (.slice R2 (k + 1) t2) (acc ++ [(ref, x, (kk : Int))])) := Lib.hid (Own.rw_ (E := spE) (t := 106) (B := w.heap.size) ⟨by rw [List.length_append, ← HKL.out]; rfl, _, HGD.out.1.mono fun y ds hy => spEk.el hy, HROW2.out⟩)
            go_ret2
            exact ⟨⟨_, _, _, 0, _, rfl, HD.out.symm, HSP.out⟩, HOF.out⟩
          | false =>
            have hlx : x.leaf = false := hlf.symm
            have hkx : x.kds ≠ [] := hor.resolve_left (fun h => by rw [hlx] at h; cases h)
            rw [down_kid acc hno hlx hkx, ← hkk] at HD
            have hkl : kk < q := by rw [hkk, HQL.out]; exact HCH.out.small x hlx hkx
            have HQ0 : Hid (q ≤ 1000) := Lib.hid (by rw [HQL.out]; exact HSM.out.2.1)
            clear hkk hlf hor hbare
            have HXN := Lib.hid (And.intro hno hlx)
            have HO0 := HOO
            have hkl' : (kk : Int) < (q : Int) := by omega
            go_wp2_with (first
              | (go_at_fn F; refine HCC.out.mono ?_; rintro e w4 ⟨rfl, ho⟩; have HB4 := Lib.hid (Hb3.out.later ho); have HNK4 := Lib.hid (HNK3.out.later ho); have HR4 := Lib.hid (own_later HR3.out ho); have HO4 := Lib.hid (on_new HO.out ho); have HX4 : Hid (Only (wr.heap.size ≤ ·) wr w4) := Lib.hid (on_new (on_new HO2.out HXb3.out) ho); have HBL4 : Hid (Blk (w4.alloc (.cells #[.int .i64 ref, .bool false, .slice P p pc, .slice Q q qc, .int .i64 (kk : Int)] 106)) w4.heap.size 106 [.int .i64 ref, .bool false, .slice P p pc, .slice Q q qc, .int .i64 (kk : Int)]) := Lib.hid (Blk.new w4 _ _); clear q0 q1 q2; (obtain ⟨q0, q1, q2⟩ := HB4.out.tri); clear ho)
              | (at_builtin; go_loud (refine wpList_append_at rfl (.tmp 40) (.tmp 45) 73 rfl w.heap.size 106 i1 zS 5 72 Try.underlying73 HI1.out.1 HI1.out.2.1 HI1.out.2.2.1 HI1.out.2.2.2 (by rfl) (by omega) (.slice A k c) k C rfl (World.ownsRow.alloc HR4.out _) ⟨w4.heap.size, 0, none⟩ 1 1 [.int .i64 ref, .bool false, .slice P p pc, .slice Q q qc, .int .i64 (kk : Int)] rfl rfl (fun j u hu => by rw [Addr.add_lit, HBL4.out.cell, Nat.zero_add]; exact hu) (by simp [Value.oneCell']) (by simp only [maxLen]; omega) (by omega) (by have := HO4.out.size; simp; omega) ?_; intro v' w' ho' hg' hat'; (obtain ⟨R2, t2, rfl, _⟩ := raw_of_own ho'); have HGD := Lib.hid (grow_den (Y := spEk) (x := (ref, x, (kk : Int))) (ob0 := none) HROW.out HDEN.out HO0.out.size HX4.out ⟨false, _, _, rfl, HNK4.out⟩ hg' hat'); have HROW2 := Lib.hid ho'; have HOF : Hid (Only (w.heap.size ≤ ·) w w') := Lib.hid (HO0.out.trans (HGD.out.2.1.mono fun j hj => hj.elim (fun h => (World.ownsRow.lt HROW.out j h).1) fun h => Nat.le_trans HO0.out.size h)); have HNF : Hid (Nod w' x false (.slice P p pc) (.slice Q q qc)) := Lib.hid (HNK4.out.at_ w' (HGD.out.2.2.mono fun j hj => hj.elim (fun h => .inl (World.ownsRow.lt HROW.out j h).2) fun h => .inr (.inr h))); have HB3F : Hid (Blk w' b3 55 [.bool false, .slice P p pc, .slice Q q qc]) := Lib.hid ((HB4.out.alloc (.cells #[.int .i64 ref, .bool false, .slice P p pc, .slice Q q qc, .int .i64 (kk : Int)] 106)).grown hg' (own_ne HR4.out HB4.out (by decide))); (obtain ⟨q0, q1, q2⟩ := HB3F.out.tri); obtain ⟨kb, ko, ky, KP, kp, hQ, hkb, hky, z0, z1, zs⟩ := kds_at HNF.out.2.2 hkl; have HKY := Lib.hid hky; obtain ⟨kyk, kyr⟩ := ky; simp only at z0 z1; have HKR : Hid (kidRef x kk = kyr) := Lib.hid (by unfold kidRef; rw [hky]; rfl); subst hQ; clear hky zs; clear ho' hg' hat')))
            have HKL2 : Hid (k + 1 = (acc ++ [(ref, x, (kk : Int))]).length) := Lib.hid (by rw [List.length_append, ← HKL.out]; rfl)
            have HDEN2 := Lib.hid HGD.out.1
            have HDD : Hid (downP l ch 12 root = joinP (acc ++ [(ref, x, (kk : Int))]) (downP l ch (12 - (k + 1)) kyr)) := Lib.hid (by rw [HD.out, HKR.out, show 12 - (k + 1) = kf by have := HKF.out; omega])
            have HVI2 : Hid (Vis l root kyr) := Lib.hid (Vis.kid (y := (kyk, kyr)) HVI.out HXN.out.1 HXN.out.2 (List.mem_of_getElem? HKY.out))
            go_roundg (12 - (k + 1))
            case measure => omega
            case rel => exact ⟨k + 1, _, _, _, _, _, rfl, by omega, rfl, rfl, HKL2, HROW2, HDEN2, HDD, HVI2, HOF⟩
    · obtain rfl : k = 12 := by omega
      have HE : Hid (downP l ch 12 root = (130, [])) := Lib.hid (by rw [HD.out]; rfl)
      go_wp2_with (fail)
      go_ret2
      exact ⟨⟨none, 0, 0, 130, [], rfl, HE.out.symm, Rw.nil_ _⟩, HO.out⟩
end Go.Proofs.Ytnjhpjpeeehagaa
