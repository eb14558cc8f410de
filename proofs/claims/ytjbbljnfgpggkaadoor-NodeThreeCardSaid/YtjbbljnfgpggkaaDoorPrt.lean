/-
  The closure of Parts: what it leaves behind it.
-/
import Derived.Test.YtjbbljnfgpggkaaDoorPrl
import Derived.Deep.CutRange
set_option linter.unusedVariables false
namespace Go.Proofs.YtjbbljnfgpggkaaDoor
open Go.RowKit
attribute [local go_sem] run_store_func

theorem Gens.on {w w' : World} {F : Nat → Prop} (h : Gens w) (ho : Only F w w') (hF : ¬ F 0) : Gens w' :=
  ⟨Nat.lt_of_lt_of_le h.1 ho.size, fun i v hv => (ho.cell (p := ⟨0, i, none⟩) hF).trans (h.2 i v hv)⟩

set_option maxRecDepth 100000 in
set_option maxHeartbeats 12800000 in
theorem add_c (g : Int) (bg bp ba B0 : Nat) (hgp : bg ≠ bp) (hap : ba ≠ bp) (hb1 : bg < B0) (hb2 : bp < B0) (hb3 : ba < B0) (hb0 : 0 < bp) : ∀ (N : Nat) (w : World) (x : Nd) (f : Bool) (P A B : Option Addr) (q p n c m d k : Nat) (ks : Bytes) (v : Value) (L : List Pt) (C : List Value),
    many x ≤ N → Small x → Gens w → B0 ≤ w.heap.size → Blk w bg 3 [.int .i64 g] → Blk w bp 36 [v] → Blk w ba 69 [.func (.func 30) #[] #[.pointer (some ⟨bg, 0, none⟩), .pointer (some ⟨bp, 0, none⟩), .pointer (some ⟨ba, 0, none⟩)]] →
    w.ownsRow B0 41 4 v k C → k = L.length → k + many x ≤ 5000 → Stab (Fz bp v) w (fun W => Den (ptE.At W) L C) → SNod (Fz bp v) w x f (.slice A n c) (.slice B m d) → q = ks.length → Stab (Fz bp v) w (fun W => Src W (.slice P q p) ks) →
    Calls Tryd.prog 30 #[.agg #[.slice P q p, .bool f, .slice A n c, .slice B m d], .pointer (some ⟨bg, 0, none⟩), .pointer (some ⟨bp, 0, none⟩), .pointer (some ⟨ba, 0, none⟩)] w (Added w bp B0 v L g ks x) := by
  intro N
  induction N using Nat.strongRecOn with
  | _ N ih =>
  intro w x f P A B q p n c m d k ks v L C hN hs hg hB hbg hbp hba hown hk hkm hden hnod hq hkey
  obtain ⟨i0, hi0, hz0, hz1, hz2⟩ := info_parts info_P
  have HI := Lib.hid (And.intro hi0 (And.intro hz0 (And.intro hz1 hz2)))
  have HO : Hid (Only (w.heap.size ≤ ·) w (w.alloc (.cells #[.slice P q p, .bool f, .slice A n c, .slice B m d] 41))) := (Only.refl _ w).alloc (fun _ h => h) _
  have HB1 : Hid (Blk (w.alloc (.cells #[.slice P q p, .bool f, .slice A n c, .slice B m d] 41)) w.heap.size 41 [.slice P q p, .bool f, .slice A n c, .slice B m d]) := Blk.new w 41 _
  have HBG := Lib.hid (hbg.alloc (.cells #[.slice P q p, .bool f, .slice A n c, .slice B m d] 41))
  have HBP := Lib.hid (hbp.alloc (.cells #[.slice P q p, .bool f, .slice A n c, .slice B m d] 41))
  have HBA := Lib.hid (hba.alloc (.cells #[.slice P q p, .bool f, .slice A n c, .slice B m d] 41))
  have HG := Lib.hid (hg.later HO.out)
  have HOWN := Lib.hid (own_later hown HO.out)
  have hbne : some bp ≠ v.ownBlock := fun e => by
    have := (World.ownsRow.lt hown bp e.symm).1
    omega
  have HBPW : Hid (∀ W W' : World, (bp < W.heap.size → some bp ≠ v.ownBlock → W'.heap[bp]? = W.heap[bp]?) → Blk W bp 36 [v] → Blk W' bp 36 [v]) := fun W W' h hb => (h hb.lt hbne).trans hb
  have HX := Lib.hid (And.intro hbp (And.intro hown (And.intro hk (And.intro hden (And.intro hnod hkey)))))
  have HNOD : Hid (Nod w x f (.slice A n c) (.slice B m d)) := hnod.nod.now
  obtain ⟨b, hb⟩ : ∃ b, nfit g x = b := ⟨_, rfl⟩
  have HNF := Lib.hid hb
  have HF : Hid (∀ W, Only (w.heap.size ≤ ·) w W → Calls Tryd.prog 14 #[.int .i64 g, .agg #[.bool f, .slice A n c, .slice B m d]] W (Told W (.bool b))) := fun W hW => Fits_n W A B n c m d x g f b hb (HNOD.out.later hW) (hg.later hW) hs
  have HQ := Lib.hid hq
  have HS := Lib.hid hs
  have hmf : ∀ (fn : Fn) (first cap : Array Value) (w : World), (Instr.makeFunc fn first cap).run Tryd.prog w = .ok (.func fn first cap) w := fun _ _ _ _ => rfl
  have hfd := ent0
  clear hi0 hz0 hz1 hz2 hb hg hbg hbp hba hown hden hnod hkey hbne hs hq hk
  have cg := HBG.out.at0
  obtain ⟨a0, a1, a2, a3⟩ := HB1.out.four
  cases b
  · have HE : Hid (∀ W, Only (w.heap.size ≤ ·) w W → Calls Tryd.prog 31 #[.agg #[.bool f, .slice A n c, .slice B m d]] W fun e w' => ∃ f1 f2 f3 x1 y1 x2 y2 x3 y3, e = .returned (.agg #[.int .i64 (many x : Nat), .func f1 x1 y1, .func f2 x2 y2, .func f3 x3 y3]) ∧ Only (W.heap.size ≤ ·) W w') := fun W hW => entries_any W f A B n c m d x (HNOD.out.later hW)
    by_cases hm : many x < 2
    · have HM := Lib.hid hm
      have hmi : ((many x : Nat) : Int) < 2 := by omega
      go_enter Tryd.func30, Tryd.ntmps30
      go_wp2_with (first
        | (go_at_call 14; (with_reducible refine (HF.out _ HO.out).mono ?_); rintro e w1 ⟨rfl, ho⟩; (replace HB1 := Lib.hid (HB1.out.later ho)); (replace HBG := Lib.hid (HBG.out.later ho)); (replace HBP := Lib.hid (HBP.out.later ho)); (replace HBA := Lib.hid (HBA.out.later ho)); (replace HG := Lib.hid (HG.out.later ho)); (replace HOWN := Lib.hid (own_later HOWN.out ho)); (replace HO := Lib.hid (on_new HO.out ho)); (obtain ⟨a0, a1, a2, a3⟩ := HB1.out.four); have cg := HBG.out.at0; have cp := HBP.out.at0; have fp := HBP.out.frozen 0; have ca := HBA.out.at0; clear ho)
        | (go_at_call 31; (with_reducible refine (HE.out _ HO.out).mono ?_); rintro e w2 ⟨f1, f2, f3, x1, y1, x2, y2, x3, y3, rfl, ho⟩; (replace HB1 := Lib.hid (HB1.out.later ho)); (replace HBG := Lib.hid (HBG.out.later ho)); (replace HBP := Lib.hid (HBP.out.later ho)); (replace HBA := Lib.hid (HBA.out.later ho)); (replace HG := Lib.hid (HG.out.later ho)); (replace HOWN := Lib.hid (own_later HOWN.out ho)); (replace HO := Lib.hid (on_new HO.out ho)); (obtain ⟨a0, a1, a2, a3⟩ := HB1.out.four); have cg := HBG.out.at0; have cp := HBP.out.at0; have fp := HBP.out.frozen 0; have ca := HBA.out.at0; clear ho)
        | (at_builtin; refine wpList_append_own_at _ rfl (.tmp 18) (.tmp 20) 36 rfl B0 41 i0 zP 4 80 Tryd.underlying36 HI.out.1 HI.out.2.1 HI.out.2.2.1 HI.out.2.2.2 (by rfl) (by omega) v k C rfl (HOWN.out.alloc _) ⟨w2.heap.size, 0, none⟩ 1 1 [.slice P q p, .bool f, .slice A n c, .slice B m d] rfl rfl (fun j u hu => by rw [Addr.add_lit, (Blk.new w2 41 [.slice P q p, .bool f, .slice A n c, .slice B m d]).cell, Nat.zero_add]; exact hu) (by simp [Value.oneCell']) (by simp only [maxLen]; omega) (by omega) (by have := HO.out.size; simp; omega) ?_; intro v' w' ho' hg' _ hat'; (obtain ⟨A2, c2, rfl, _⟩ := raw_of_own ho'); have HBP2 := Lib.hid (HBPW.out _ _ (hg'.block bp) (HBP.out.alloc _)); have cp' := HBP2.out.at0; have fp' := HBP2.out.frozen 0; have HW := Lib.hid (And.intro ho' (And.intro hg' hat')); clear ho' hg' hat'))
      obtain ⟨hbp, hown, hk, hden, hnod, hkey⟩ := HX.out
      obtain ⟨ho2, hg2, hat2⟩ := HW.out
      obtain rfl := HQ.out
      go_end0
      exact added_one (HO.out.alloc (fun _ h => h) _) hbp hb2 hB hown hk hden hnod hkey hg2 ho2 hat2 (.inr HM.out)
    · have HM := Lib.hid hm
      have hmi : ¬ ((many x : Nat) : Int) < 2 := by omega
      go_enter Tryd.func30, Tryd.ntmps30
      go_upto_region 3 with (first
        | (go_at_call 14; (with_reducible refine (HF.out _ HO.out).mono ?_); rintro e w1 ⟨rfl, ho⟩; (replace HB1 := Lib.hid (HB1.out.later ho)); (replace HBG := Lib.hid (HBG.out.later ho)); (replace HBP := Lib.hid (HBP.out.later ho)); (replace HBA := Lib.hid (HBA.out.later ho)); (replace HG := Lib.hid (HG.out.later ho)); (replace HOWN := Lib.hid (own_later HOWN.out ho)); (replace HO := Lib.hid (on_new HO.out ho)); (obtain ⟨a0, a1, a2, a3⟩ := HB1.out.four); have cg := HBG.out.at0; have cp := HBP.out.at0; have fp := HBP.out.frozen 0; have ca := HBA.out.at0; clear ho)
        | (go_at_call 31; (with_reducible refine (HE.out _ HO.out).mono ?_); rintro e w2 ⟨f1, f2, f3, x1, y1, x2, y2, x3, y3, rfl, ho⟩; (replace HB1 := Lib.hid (HB1.out.later ho)); (replace HBG := Lib.hid (HBG.out.later ho)); (replace HBP := Lib.hid (HBP.out.later ho)); (replace HBA := Lib.hid (HBA.out.later ho)); (replace HG := Lib.hid (HG.out.later ho)); (replace HOWN := Lib.hid (own_later HOWN.out ho)); (replace HO := Lib.hid (on_new HO.out ho)); (obtain ⟨a0, a1, a2, a3⟩ := HB1.out.four); have cg := HBG.out.at0; have cp := HBP.out.at0; have fp := HBP.out.frozen 0; have ca := HBA.out.at0; clear ho))
      have HMID : Hid (∀ W, Only (w2.heap.size ≤ ·) w2 W → Calls Tryd.prog 33 #[.int .i64 g, .agg #[.bool f, .slice A n c, .slice B m d]] W (Mid W (rms g x))) := fun W hW => mid_n W A B n c m d x g f (HNOD.out.later (on_new HO.out hW)) (HG.out.later hW) HS.out (by have := HM.out; omega)
      have HCUT : Hid (∀ W kk, Only (w2.heap.size ≤ ·) w2 W → IsMid (rms g x) kk → Calls Tryd.prog 32 #[.agg #[.slice P q p, .bool f, .slice A n c, .slice B m d], .int .i64 kk] W (CutTo (fun k => Fz bp v k ∨ (w2.heap.size ≤ k ∧ k < W.heap.size)) W x (.slice P q p) kk)) := fun W kk hW hkk => by
        have hwz := HO.out.size
        have hon := (World.ownsRow.lt HX.out.2.1)
        refine cut_n g W _ P A B f q p n c m d kk x (fun k hk => ?_) (HX.out.2.2.2.2.1.step ((on_new HO.out hW).mono fun _ h => .inr h) fun k hk => ?_) HS.out hkk
        · rcases hk with (rfl | hk) | hk
          · have := HX.out.1.lt; have := hW.size; omega
          · have := (hon k hk).2; have := hW.size; omega
          · exact hk.2
        · rcases hk with hk | hk
          · exact .inl hk
          · exact .inr (by omega)
      have KP : Hid (∀ w' : World, Only (w2.heap.size ≤ ·) w2 w' → (w'.cell? ⟨w.heap.size, 0, none⟩ = some (.slice P q p) ∧ w'.cell? ⟨w.heap.size, 1, none⟩ = some (.bool f) ∧ w'.cell? ⟨w.heap.size, 2, none⟩ = some (.slice A n c) ∧ w'.cell? ⟨w.heap.size, 3, none⟩ = some (.slice B m d) ∧ w'.cell? ⟨bg, 0, none⟩ = some (.int .i64 g))) := fun W hW => by
        have h := (HB1.out.later hW).four
        exact ⟨h.1, h.2.1, h.2.2.1, h.2.2.2, (HBG.out.later hW).at0⟩
      go_cut [5, 6] from 22 to 30 (fun y5 y6 wx => ∃ b5 b6 : Nat, y5 = .pointer (some ⟨b5, 0, none⟩) ∧ y6 = .pointer (some ⟨b6, 0, none⟩) ∧ Halves w2 (Fz bp v) g x (.slice P q p) b5 b6 wx)
      case first =>
        have HOZ : Hid (Only (w2.heap.size ≤ ·) w2 w2.drew) := (Only.refl _ w2).drew
        refine wp_region_held_drew (S := (fun w' => (w'.cell? ⟨w.heap.size, 0, none⟩ = some (.slice P q p) ∧ w'.cell? ⟨w.heap.size, 1, none⟩ = some (.bool f) ∧ w'.cell? ⟨w.heap.size, 2, none⟩ = some (.slice A n c) ∧ w'.cell? ⟨w.heap.size, 3, none⟩ = some (.slice B m d) ∧ w'.cell? ⟨bg, 0, none⟩ = some (.int .i64 g)))) (by kernel_rfl) (KP.out _ HOZ.out) (fun hHeld => ?_)
        generalize w2.drew = u0 at HOZ hHeld ⊢
        refine take_one (i := 0) (d := 23) (oi := ?_) (v := ?_) ?_ (by kernel_rfl) (by kernel_rfl) (by kernel_rfl) (fun _ _ _ h => h) ?_ ?_ ?_ (by assumption) ?_
        case refine_3 => (simp only [List.getElem?_toArray, List.getElem?_cons_zero]; rfl)
        case refine_4 => rfl
        case refine_5 => rfl
        case refine_6 => (intro w' hSw; (try dsimp only at hSw); go_simp; (try with_reducible rfl))
        simp only [Act.put, List.setIfInBounds_toArray, List.set_cons_zero, List.set_cons_succ]
        refine take_one (i := 1) (d := 24) (oi := ?_) (v := ?_) ?_ (by kernel_rfl) (by kernel_rfl) (by kernel_rfl) (fun _ _ _ h => h) ?_ ?_ ?_ (by assumption) ?_
        case refine_3 => (simp only [List.getElem?_toArray, List.getElem?_cons_succ, List.getElem?_cons_zero]; rfl)
        case refine_4 => rfl
        case refine_5 => rfl
        case refine_6 => (intro w' hSw; (try dsimp only at hSw); go_simp; (try with_reducible rfl))
        simp only [Act.put, List.setIfInBounds_toArray, List.set_cons_zero, List.set_cons_succ]
        refine take_one (i := 2) (d := 25) (oi := ?_) (v := ?_) ?_ (by kernel_rfl) (by kernel_rfl) (by kernel_rfl) (fun _ _ _ h => h) ?_ ?_ ?_ (by assumption) ?_
        case refine_3 => (simp only [List.getElem?_toArray, List.getElem?_cons_succ, List.getElem?_cons_zero]; rfl)
        case refine_4 => rfl
        case refine_5 => rfl
        case refine_6 => (intro w' hSw; (try dsimp only at hSw); go_simp; (try with_reducible rfl))
        simp only [Act.put, List.setIfInBounds_toArray, List.set_cons_zero, List.set_cons_succ]
        refine take_one (i := 3) (d := 26) (oi := ?_) (v := ?_) ?_ (by kernel_rfl) (by kernel_rfl) (by kernel_rfl) (fun _ _ _ h => h) ?_ ?_ ?_ (by assumption) ?_
        case refine_3 => (simp only [List.getElem?_toArray, List.getElem?_cons_succ, List.getElem?_cons_zero]; rfl)
        case refine_4 => rfl
        case refine_5 => rfl
        case refine_6 => (intro w' hSw; (try dsimp only at hSw); go_simp; (try with_reducible rfl))
        simp only [Act.put, List.setIfInBounds_toArray, List.set_cons_zero, List.set_cons_succ]
        refine wpAnyH_ready (rs := [4, 9, 10]) (by kernel_rfl) (by simp) ?_
        refine AllReadyH.cons (o := ?_) ?_ (fun K hK => ?_) (AllReadyH.cons (o := ?_) ?_ (fun K hK => ?_) (AllReadyH.cons (o := ?_) ?_ (fun K hK => ?_) AllReadyH.nil))
        case refine_2 => (simp only [List.getElem?_toArray, List.getElem?_cons_succ, List.getElem?_cons_zero]; rfl)
        case refine_5 => (simp only [List.getElem?_toArray, List.getElem?_cons_succ, List.getElem?_cons_zero]; rfl)
        case refine_8 => (simp only [List.getElem?_toArray, List.getElem?_cons_succ, List.getElem?_cons_zero]; rfl)
        case refine_3 =>
          go_simp
          (go_at_call 33; (with_reducible refine (HMID.out _ HOZ.out).mono ?_); rintro e v3 ⟨kk, rfl, hmid, ho⟩; have HMM := Lib.hid hmid; (replace HOZ := Lib.hid (on_new HOZ.out ho)); clear ho hmid)
          go_wp2_with (fail)
          refine hK.out _ _ (KP.out _ HOZ.out) (fun hHeld => ?_)
          clear hK K
          try simp only [Act.put, List.setIfInBounds_toArray, List.set_cons_zero, List.set_cons_succ]
          refine wpAnyH_ready (rs := [5, 9, 10]) (by kernel_rfl) (by simp) ?_
          refine AllReadyH.cons (o := ?_) ?_ (fun K hK => ?_) (AllReadyH.cons (o := ?_) ?_ (fun K hK => ?_) (AllReadyH.cons (o := ?_) ?_ (fun K hK => ?_) AllReadyH.nil))
          case refine_2 => (simp only [List.getElem?_toArray, List.getElem?_cons_succ, List.getElem?_cons_zero]; rfl)
          case refine_5 => (simp only [List.getElem?_toArray, List.getElem?_cons_succ, List.getElem?_cons_zero]; rfl)
          case refine_8 => (simp only [List.getElem?_toArray, List.getElem?_cons_succ, List.getElem?_cons_zero]; rfl)
          case refine_3 =>
            go_simp
            (go_at_call 32; (with_reducible refine (HCUT.out _ kk HOZ.out HMM.out).mono ?_); rintro e v4 ⟨A1, n1, c1, B1, m1, d1, P2, p2, A2, n2, c2, B2, m2, d2, rfl, s1, s2, s3, ho⟩; have HS1 := Lib.hid s1; have HS2 := Lib.hid s2; have HS3 := Lib.hid s3; (replace HOZ := Lib.hid (on_new HOZ.out ho)); have HOV : Hid (Only (v4.heap.size ≤ ·) v4 v4) := Only.refl _ _; clear ho s1 s2 s3)
            go_wp2_with (fail)
            refine hK.out _ _ (KP.out _ HOZ.out) (fun hHeld => ?_)
            clear hK K
            try simp only [Act.put, List.setIfInBounds_toArray, List.set_cons_zero, List.set_cons_succ]
            refine take_one (i := 6) (d := 22) (oi := ?_) (v := ?_) ?_ (by kernel_rfl) (by kernel_rfl) (by kernel_rfl) (fun _ _ _ h => h) ?_ ?_ ?_ (by assumption) ?_
            case refine_3 => (simp only [List.getElem?_toArray, List.getElem?_cons_succ, List.getElem?_cons_zero]; rfl)
            case refine_4 => rfl
            case refine_5 => rfl
            case refine_6 => (intro w' hSw; (try dsimp only at hSw); go_simp; (try with_reducible rfl))
            simp only [Act.put, List.setIfInBounds_toArray, List.set_cons_zero, List.set_cons_succ]
            refine take_one (i := 7) (d := 29) (oi := ?_) (v := ?_) ?_ (by kernel_rfl) (by kernel_rfl) (by kernel_rfl) (fun _ _ _ h => h) ?_ ?_ ?_ (by assumption) ?_
            case refine_3 => (simp only [List.getElem?_toArray, List.getElem?_cons_succ, List.getElem?_cons_zero]; rfl)
            case refine_4 => rfl
            case refine_5 => rfl
            case refine_6 => (intro w' hSw; (try dsimp only at hSw); go_simp; (try with_reducible rfl))
            simp only [Act.put, List.setIfInBounds_toArray, List.set_cons_zero, List.set_cons_succ]
            refine take_one (i := 8) (d := 30) (oi := ?_) (v := ?_) ?_ (by kernel_rfl) (by kernel_rfl) (by kernel_rfl) (fun _ _ _ h => h) ?_ ?_ ?_ (by assumption) ?_
            case refine_3 => (simp only [List.getElem?_toArray, List.getElem?_cons_succ, List.getElem?_cons_zero]; rfl)
            case refine_4 => rfl
            case refine_5 => rfl
            case refine_6 => (intro w' hSw; (try dsimp only at hSw); go_simp; (try with_reducible rfl))
            simp only [Act.put, List.setIfInBounds_toArray, List.set_cons_zero, List.set_cons_succ]
            refine wpAnyH_ready (rs := [9, 10]) (by kernel_rfl) (by simp) ?_
            refine AllReadyH.cons (o := ?_) ?_ (fun K hK => ?_) (AllReadyH.cons (o := ?_) ?_ (fun K hK => ?_) AllReadyH.nil)
            case refine_2 => (simp only [List.getElem?_toArray, List.getElem?_cons_succ, List.getElem?_cons_zero]; rfl)
            case refine_5 => (simp only [List.getElem?_toArray, List.getElem?_cons_succ, List.getElem?_cons_zero]; rfl)
            case refine_3 =>
              go_simp
              refine hK.out _ _ (KP.out _ (HOZ.out.alloc (fun _ h => h) _)) (fun hHeld => ?_)
              clear hK K
              try simp only [Act.put, List.setIfInBounds_toArray, List.set_cons_zero, List.set_cons_succ]
              have HB5 : Hid (Blk (v4.alloc (.cells #[.slice none 0 0, .bool false, .slice none 0 0, .slice none 0 0] 41)) v4.heap.size 41 [.slice none 0 0, .bool false, .slice none 0 0, .slice none 0 0]) := Blk.new v4 41 [.slice none 0 0, .bool false, .slice none 0 0, .slice none 0 0]
              have H5 : Hid (w2.heap.size ≤ v4.heap.size) := HOZ.out.size
              have F5 : Hid ((fun k => Fz bp v k ∨ (w2.heap.size ≤ k ∧ k < v3.heap.size)) v4.heap.size ∨ v4.heap.size ≤ v4.heap.size) := .inr HOV.out.size
              replace HOV : Hid (Only (v4.heap.size ≤ ·) v4 (v4.alloc (.cells #[.slice none 0 0, .bool false, .slice none 0 0, .slice none 0 0] 41))) := HOV.out.alloc (fun _ h => h) _
              replace HOZ : Hid (Only (w2.heap.size ≤ ·) w2 (v4.alloc (.cells #[.slice none 0 0, .bool false, .slice none 0 0, .slice none 0 0] 41))) := HOZ.out.alloc (fun _ h => h) _
              generalize v4.alloc (.cells #[.slice none 0 0, .bool false, .slice none 0 0, .slice none 0 0] 41) = u1 at HB5 HOV HOZ ⊢
              refine wpAnyH_ready (rs := [10]) (by kernel_rfl) (by simp) ?_
              refine AllReadyH.cons (o := ?_) ?_ (fun K hK => ?_) AllReadyH.nil
              case refine_2 => (simp only [List.getElem?_toArray, List.getElem?_cons_succ, List.getElem?_cons_zero]; rfl)
              go_simp
              refine hK.out _ _ (KP.out _ (HOZ.out.alloc (fun _ h => h) _)) (fun hHeld => ?_)
              clear hK K
              try simp only [Act.put, List.setIfInBounds_toArray, List.set_cons_zero, List.set_cons_succ]
              have HB6 : Hid (Blk (u1.alloc (.cells #[.slice none 0 0, .bool false, .slice none 0 0, .slice none 0 0] 41)) u1.heap.size 41 [.slice none 0 0, .bool false, .slice none 0 0, .slice none 0 0]) := Blk.new u1 41 [.slice none 0 0, .bool false, .slice none 0 0, .slice none 0 0]
              have H6 : Hid (w2.heap.size ≤ u1.heap.size) := HOZ.out.size
              have NE := Lib.hid (show v4.heap.size ≠ u1.heap.size from by have := HB5.out.lt; omega)
              replace HB5 : Hid (Blk (u1.alloc (.cells #[.slice none 0 0, .bool false, .slice none 0 0, .slice none 0 0] 41)) v4.heap.size 41 [.slice none 0 0, .bool false, .slice none 0 0, .slice none 0 0]) := HB5.out.alloc _
              have F6 : Hid ((fun k => Fz bp v k ∨ (w2.heap.size ≤ k ∧ k < v3.heap.size)) u1.heap.size ∨ v4.heap.size ≤ u1.heap.size) := .inr HOV.out.size
              replace HOV : Hid (Only (v4.heap.size ≤ ·) v4 (u1.alloc (.cells #[.slice none 0 0, .bool false, .slice none 0 0, .slice none 0 0] 41))) := HOV.out.alloc (fun _ h => h) _
              replace HOZ : Hid (Only (w2.heap.size ≤ ·) w2 (u1.alloc (.cells #[.slice none 0 0, .bool false, .slice none 0 0, .slice none 0 0] 41))) := HOZ.out.alloc (fun _ h => h) _
              generalize u1.alloc (.cells #[.slice none 0 0, .bool false, .slice none 0 0, .slice none 0 0] 41) = u2 at HB6 HB5 HOV HOZ ⊢
              refine wpAnyH_ready (rs := [11]) (by kernel_rfl) (by simp) ?_
              refine AllReadyH.cons (o := ?_) ?_ (fun K hK => ?_) AllReadyH.nil
              case refine_2 => (simp only [List.getElem?_toArray, List.getElem?_cons_succ, List.getElem?_cons_zero]; rfl)
              obtain ⟨z0, z1, z2, z3⟩ := HB5.out.four
              obtain ⟨y0, y1, y2, y3⟩ := HB6.out.four
              obtain ⟨fz0, fz1, fz2, fz3⟩ := HB5.out.melt
              obtain ⟨fy0, fy1, fy2, fy3⟩ := HB6.out.melt
              have ne1 := NE.out
              have ne2 := NE.out.symm
              go_simp
              refine hK.out _ _ (KP.out _ ((((HOZ.out.setCell (p := ⟨v4.heap.size, 0, none⟩) H5.out _).setCell (p := ⟨v4.heap.size, 1, none⟩) H5.out _).setCell (p := ⟨v4.heap.size, 2, none⟩) H5.out _).setCell (p := ⟨v4.heap.size, 3, none⟩) H5.out _)) (fun hHeld => ?_)
              clear hK K
              try simp only [Act.put, List.setIfInBounds_toArray, List.set_cons_zero, List.set_cons_succ]
              refine wpAnyH_ready (rs := [12]) (by kernel_rfl) (by simp) ?_
              refine AllReadyH.cons (o := ?_) ?_ (fun K hK => ?_) AllReadyH.nil
              case refine_2 => (simp only [List.getElem?_toArray, List.getElem?_cons_succ, List.getElem?_cons_zero]; rfl)
              go_simp
              refine hK.out _ _ (KP.out _ ((((((((HOZ.out.setCell (p := ⟨v4.heap.size, 0, none⟩) H5.out _).setCell (p := ⟨v4.heap.size, 1, none⟩) H5.out _).setCell (p := ⟨v4.heap.size, 2, none⟩) H5.out _).setCell (p := ⟨v4.heap.size, 3, none⟩) H5.out _).setCell (p := ⟨u1.heap.size, 0, none⟩) H6.out _).setCell (p := ⟨u1.heap.size, 1, none⟩) H6.out _).setCell (p := ⟨u1.heap.size, 2, none⟩) H6.out _).setCell (p := ⟨u1.heap.size, 3, none⟩) H6.out _)) (fun hHeld => ?_)
              clear hK K
              try simp only [Act.put, List.setIfInBounds_toArray, List.set_cons_zero, List.set_cons_succ]
              refine wpAnyH_done (by kernel_rfl) ?_ _
              try go_wp2_with (fail)
              go_meet
              exact ⟨_, _, rfl, rfl, halves_mk HMM.out HB5.out HB6.out NE.out HOZ.out HOV.out H5.out H6.out F5.out F6.out (fun k hk => .inl hk) HS1.out HS2.out HS3.out⟩
            case refine_6 =>
              go_simp
              refine hK.out _ _ (KP.out _ (HOZ.out.alloc (fun _ h => h) _)) (fun hHeld => ?_)
              clear hK K
              try simp only [Act.put, List.setIfInBounds_toArray, List.set_cons_zero, List.set_cons_succ]
              have HB6 : Hid (Blk (v4.alloc (.cells #[.slice none 0 0, .bool false, .slice none 0 0, .slice none 0 0] 41)) v4.heap.size 41 [.slice none 0 0, .bool false, .slice none 0 0, .slice none 0 0]) := Blk.new v4 41 [.slice none 0 0, .bool false, .slice none 0 0, .slice none 0 0]
              have H6 : Hid (w2.heap.size ≤ v4.heap.size) := HOZ.out.size
              have F6 : Hid ((fun k => Fz bp v k ∨ (w2.heap.size ≤ k ∧ k < v3.heap.size)) v4.heap.size ∨ v4.heap.size ≤ v4.heap.size) := .inr HOV.out.size
              replace HOV : Hid (Only (v4.heap.size ≤ ·) v4 (v4.alloc (.cells #[.slice none 0 0, .bool false, .slice none 0 0, .slice none 0 0] 41))) := HOV.out.alloc (fun _ h => h) _
              replace HOZ : Hid (Only (w2.heap.size ≤ ·) w2 (v4.alloc (.cells #[.slice none 0 0, .bool false, .slice none 0 0, .slice none 0 0] 41))) := HOZ.out.alloc (fun _ h => h) _
              generalize v4.alloc (.cells #[.slice none 0 0, .bool false, .slice none 0 0, .slice none 0 0] 41) = u3 at HB6 HOV HOZ ⊢
              refine wpAnyH_ready (rs := [9]) (by kernel_rfl) (by simp) ?_
              refine AllReadyH.cons (o := ?_) ?_ (fun K hK => ?_) AllReadyH.nil
              case refine_2 => (simp only [List.getElem?_toArray, List.getElem?_cons_succ, List.getElem?_cons_zero]; rfl)
              go_simp
              refine hK.out _ _ (KP.out _ (HOZ.out.alloc (fun _ h => h) _)) (fun hHeld => ?_)
              clear hK K
              try simp only [Act.put, List.setIfInBounds_toArray, List.set_cons_zero, List.set_cons_succ]
              have HB5 : Hid (Blk (u3.alloc (.cells #[.slice none 0 0, .bool false, .slice none 0 0, .slice none 0 0] 41)) u3.heap.size 41 [.slice none 0 0, .bool false, .slice none 0 0, .slice none 0 0]) := Blk.new u3 41 [.slice none 0 0, .bool false, .slice none 0 0, .slice none 0 0]
              have H5 : Hid (w2.heap.size ≤ u3.heap.size) := HOZ.out.size
              have NE := Lib.hid (show u3.heap.size ≠ v4.heap.size from by have := HB6.out.lt; omega)
              replace HB6 : Hid (Blk (u3.alloc (.cells #[.slice none 0 0, .bool false, .slice none 0 0, .slice none 0 0] 41)) v4.heap.size 41 [.slice none 0 0, .bool false, .slice none 0 0, .slice none 0 0]) := HB6.out.alloc _
              have F5 : Hid ((fun k => Fz bp v k ∨ (w2.heap.size ≤ k ∧ k < v3.heap.size)) u3.heap.size ∨ v4.heap.size ≤ u3.heap.size) := .inr HOV.out.size
              replace HOV : Hid (Only (v4.heap.size ≤ ·) v4 (u3.alloc (.cells #[.slice none 0 0, .bool false, .slice none 0 0, .slice none 0 0] 41))) := HOV.out.alloc (fun _ h => h) _
              replace HOZ : Hid (Only (w2.heap.size ≤ ·) w2 (u3.alloc (.cells #[.slice none 0 0, .bool false, .slice none 0 0, .slice none 0 0] 41))) := HOZ.out.alloc (fun _ h => h) _
              generalize u3.alloc (.cells #[.slice none 0 0, .bool false, .slice none 0 0, .slice none 0 0] 41) = u4 at HB5 HB6 HOV HOZ ⊢
              refine wpAnyH_ready (rs := [11]) (by kernel_rfl) (by simp) ?_
              refine AllReadyH.cons (o := ?_) ?_ (fun K hK => ?_) AllReadyH.nil
              case refine_2 => (simp only [List.getElem?_toArray, List.getElem?_cons_succ, List.getElem?_cons_zero]; rfl)
              obtain ⟨z0, z1, z2, z3⟩ := HB5.out.four
              obtain ⟨y0, y1, y2, y3⟩ := HB6.out.four
              obtain ⟨fz0, fz1, fz2, fz3⟩ := HB5.out.melt
              obtain ⟨fy0, fy1, fy2, fy3⟩ := HB6.out.melt
              have ne1 := NE.out
              have ne2 := NE.out.symm
              go_simp
              refine hK.out _ _ (KP.out _ ((((HOZ.out.setCell (p := ⟨u3.heap.size, 0, none⟩) H5.out _).setCell (p := ⟨u3.heap.size, 1, none⟩) H5.out _).setCell (p := ⟨u3.heap.size, 2, none⟩) H5.out _).setCell (p := ⟨u3.heap.size, 3, none⟩) H5.out _)) (fun hHeld => ?_)
              clear hK K
              try simp only [Act.put, List.setIfInBounds_toArray, List.set_cons_zero, List.set_cons_succ]
              refine wpAnyH_ready (rs := [12]) (by kernel_rfl) (by simp) ?_
              refine AllReadyH.cons (o := ?_) ?_ (fun K hK => ?_) AllReadyH.nil
              case refine_2 => (simp only [List.getElem?_toArray, List.getElem?_cons_succ, List.getElem?_cons_zero]; rfl)
              go_simp
              refine hK.out _ _ (KP.out _ ((((((((HOZ.out.setCell (p := ⟨u3.heap.size, 0, none⟩) H5.out _).setCell (p := ⟨u3.heap.size, 1, none⟩) H5.out _).setCell (p := ⟨u3.heap.size, 2, none⟩) H5.out _).setCell (p := ⟨u3.heap.size, 3, none⟩) H5.out _).setCell (p := ⟨v4.heap.size, 0, none⟩) H6.out _).setCell (p := ⟨v4.heap.size, 1, none⟩) H6.out _).setCell (p := ⟨v4.heap.size, 2, none⟩) H6.out _).setCell (p := ⟨v4.heap.size, 3, none⟩) H6.out _)) (fun hHeld => ?_)
              clear hK K
              try simp only [Act.put, List.setIfInBounds_toArray, List.set_cons_zero, List.set_cons_succ]
              refine wpAnyH_done (by kernel_rfl) ?_ _
              try go_wp2_with (fail)
              go_meet
              exact ⟨_, _, rfl, rfl, halves_mk HMM.out HB5.out HB6.out NE.out HOZ.out HOV.out H5.out H6.out F5.out F6.out (fun k hk => .inl hk) HS1.out HS2.out HS3.out⟩
          case refine_6 =>
            go_simp
            refine hK.out _ _ (KP.out _ (HOZ.out.alloc (fun _ h => h) _)) (fun hHeld => ?_)
            clear hK K
            try simp only [Act.put, List.setIfInBounds_toArray, List.set_cons_zero, List.set_cons_succ]
            have HB5 : Hid (Blk (v3.alloc (.cells #[.slice none 0 0, .bool false, .slice none 0 0, .slice none 0 0] 41)) v3.heap.size 41 [.slice none 0 0, .bool false, .slice none 0 0, .slice none 0 0]) := Blk.new v3 41 [.slice none 0 0, .bool false, .slice none 0 0, .slice none 0 0]
            have H5 : Hid (w2.heap.size ≤ v3.heap.size) := HOZ.out.size
            replace HOZ : Hid (Only (w2.heap.size ≤ ·) w2 (v3.alloc (.cells #[.slice none 0 0, .bool false, .slice none 0 0, .slice none 0 0] 41))) := HOZ.out.alloc (fun _ h => h) _
            generalize v3.alloc (.cells #[.slice none 0 0, .bool false, .slice none 0 0, .slice none 0 0] 41) = u5 at HB5 HOZ ⊢
            refine wpAnyH_ready (rs := [5, 10]) (by kernel_rfl) (by simp) ?_
            refine AllReadyH.cons (o := ?_) ?_ (fun K hK => ?_) (AllReadyH.cons (o := ?_) ?_ (fun K hK => ?_) AllReadyH.nil)
            case refine_2 => (simp only [List.getElem?_toArray, List.getElem?_cons_succ, List.getElem?_cons_zero]; rfl)
            case refine_5 => (simp only [List.getElem?_toArray, List.getElem?_cons_succ, List.getElem?_cons_zero]; rfl)
            case refine_3 =>
              go_simp
              (go_at_call 32; (with_reducible refine (HCUT.out _ kk HOZ.out HMM.out).mono ?_); rintro e v4 ⟨A1, n1, c1, B1, m1, d1, P2, p2, A2, n2, c2, B2, m2, d2, rfl, s1, s2, s3, ho⟩; have HS1 := Lib.hid s1; have HS2 := Lib.hid s2; have HS3 := Lib.hid s3; have F5 : Hid ((fun k => Fz bp v k ∨ (w2.heap.size ≤ k ∧ k < u5.heap.size)) v3.heap.size ∨ v4.heap.size ≤ v3.heap.size) := .inl (.inr ⟨H5.out, HB5.out.lt⟩); (replace HB5 := Lib.hid (HB5.out.later ho)); (replace HOZ := Lib.hid (on_new HOZ.out ho)); have HOV : Hid (Only (v4.heap.size ≤ ·) v4 v4) := Only.refl _ _; clear ho s1 s2 s3)
              go_wp2_with (fail)
              refine hK.out _ _ (KP.out _ HOZ.out) (fun hHeld => ?_)
              clear hK K
              try simp only [Act.put, List.setIfInBounds_toArray, List.set_cons_zero, List.set_cons_succ]
              refine take_one (i := 6) (d := 22) (oi := ?_) (v := ?_) ?_ (by kernel_rfl) (by kernel_rfl) (by kernel_rfl) (fun _ _ _ h => h) ?_ ?_ ?_ (by assumption) ?_
              case refine_3 => (simp only [List.getElem?_toArray, List.getElem?_cons_succ, List.getElem?_cons_zero]; rfl)
              case refine_4 => rfl
              case refine_5 => rfl
              case refine_6 => (intro w' hSw; (try dsimp only at hSw); go_simp; (try with_reducible rfl))
              simp only [Act.put, List.setIfInBounds_toArray, List.set_cons_zero, List.set_cons_succ]
              refine take_one (i := 7) (d := 29) (oi := ?_) (v := ?_) ?_ (by kernel_rfl) (by kernel_rfl) (by kernel_rfl) (fun _ _ _ h => h) ?_ ?_ ?_ (by assumption) ?_
              case refine_3 => (simp only [List.getElem?_toArray, List.getElem?_cons_succ, List.getElem?_cons_zero]; rfl)
              case refine_4 => rfl
              case refine_5 => rfl
              case refine_6 => (intro w' hSw; (try dsimp only at hSw); go_simp; (try with_reducible rfl))
              simp only [Act.put, List.setIfInBounds_toArray, List.set_cons_zero, List.set_cons_succ]
              refine take_one (i := 8) (d := 30) (oi := ?_) (v := ?_) ?_ (by kernel_rfl) (by kernel_rfl) (by kernel_rfl) (fun _ _ _ h => h) ?_ ?_ ?_ (by assumption) ?_
              case refine_3 => (simp only [List.getElem?_toArray, List.getElem?_cons_succ, List.getElem?_cons_zero]; rfl)
              case refine_4 => rfl
              case refine_5 => rfl
              case refine_6 => (intro w' hSw; (try dsimp only at hSw); go_simp; (try with_reducible rfl))
              simp only [Act.put, List.setIfInBounds_toArray, List.set_cons_zero, List.set_cons_succ]
              refine wpAnyH_ready (rs := [10]) (by kernel_rfl) (by simp) ?_
              refine AllReadyH.cons (o := ?_) ?_ (fun K hK => ?_) AllReadyH.nil
              case refine_2 => (simp only [List.getElem?_toArray, List.getElem?_cons_succ, List.getElem?_cons_zero]; rfl)
              go_simp
              refine hK.out _ _ (KP.out _ (HOZ.out.alloc (fun _ h => h) _)) (fun hHeld => ?_)
              clear hK K
              try simp only [Act.put, List.setIfInBounds_toArray, List.set_cons_zero, List.set_cons_succ]
              have HB6 : Hid (Blk (v4.alloc (.cells #[.slice none 0 0, .bool false, .slice none 0 0, .slice none 0 0] 41)) v4.heap.size 41 [.slice none 0 0, .bool false, .slice none 0 0, .slice none 0 0]) := Blk.new v4 41 [.slice none 0 0, .bool false, .slice none 0 0, .slice none 0 0]
              have H6 : Hid (w2.heap.size ≤ v4.heap.size) := HOZ.out.size
              have NE := Lib.hid (show v3.heap.size ≠ v4.heap.size from by have := HB5.out.lt; omega)
              replace HB5 : Hid (Blk (v4.alloc (.cells #[.slice none 0 0, .bool false, .slice none 0 0, .slice none 0 0] 41)) v3.heap.size 41 [.slice none 0 0, .bool false, .slice none 0 0, .slice none 0 0]) := HB5.out.alloc _
              have F6 : Hid ((fun k => Fz bp v k ∨ (w2.heap.size ≤ k ∧ k < u5.heap.size)) v4.heap.size ∨ v4.heap.size ≤ v4.heap.size) := .inr HOV.out.size
              replace HOV : Hid (Only (v4.heap.size ≤ ·) v4 (v4.alloc (.cells #[.slice none 0 0, .bool false, .slice none 0 0, .slice none 0 0] 41))) := HOV.out.alloc (fun _ h => h) _
              replace HOZ : Hid (Only (w2.heap.size ≤ ·) w2 (v4.alloc (.cells #[.slice none 0 0, .bool false, .slice none 0 0, .slice none 0 0] 41))) := HOZ.out.alloc (fun _ h => h) _
              generalize v4.alloc (.cells #[.slice none 0 0, .bool false, .slice none 0 0, .slice none 0 0] 41) = u6 at HB6 HB5 HOV HOZ ⊢
              refine wpAnyH_ready (rs := [11]) (by kernel_rfl) (by simp) ?_
              refine AllReadyH.cons (o := ?_) ?_ (fun K hK => ?_) AllReadyH.nil
              case refine_2 => (simp only [List.getElem?_toArray, List.getElem?_cons_succ, List.getElem?_cons_zero]; rfl)
              obtain ⟨z0, z1, z2, z3⟩ := HB5.out.four
              obtain ⟨y0, y1, y2, y3⟩ := HB6.out.four
              obtain ⟨fz0, fz1, fz2, fz3⟩ := HB5.out.melt
              obtain ⟨fy0, fy1, fy2, fy3⟩ := HB6.out.melt
              have ne1 := NE.out
              have ne2 := NE.out.symm
              go_simp
              refine hK.out _ _ (KP.out _ ((((HOZ.out.setCell (p := ⟨v3.heap.size, 0, none⟩) H5.out _).setCell (p := ⟨v3.heap.size, 1, none⟩) H5.out _).setCell (p := ⟨v3.heap.size, 2, none⟩) H5.out _).setCell (p := ⟨v3.heap.size, 3, none⟩) H5.out _)) (fun hHeld => ?_)
              clear hK K
              try simp only [Act.put, List.setIfInBounds_toArray, List.set_cons_zero, List.set_cons_succ]
              refine wpAnyH_ready (rs := [12]) (by kernel_rfl) (by simp) ?_
              refine AllReadyH.cons (o := ?_) ?_ (fun K hK => ?_) AllReadyH.nil
              case refine_2 => (simp only [List.getElem?_toArray, List.getElem?_cons_succ, List.getElem?_cons_zero]; rfl)
              go_simp
              refine hK.out _ _ (KP.out _ ((((((((HOZ.out.setCell (p := ⟨v3.heap.size, 0, none⟩) H5.out _).setCell (p := ⟨v3.heap.size, 1, none⟩) H5.out _).setCell (p := ⟨v3.heap.size, 2, none⟩) H5.out _).setCell (p := ⟨v3.heap.size, 3, none⟩) H5.out _).setCell (p := ⟨v4.heap.size, 0, none⟩) H6.out _).setCell (p := ⟨v4.heap.size, 1, none⟩) H6.out _).setCell (p := ⟨v4.heap.size, 2, none⟩) H6.out _).setCell (p := ⟨v4.heap.size, 3, none⟩) H6.out _)) (fun hHeld => ?_)
              clear hK K
              try simp only [Act.put, List.setIfInBounds_toArray, List.set_cons_zero, List.set_cons_succ]
              refine wpAnyH_done (by kernel_rfl) ?_ _
              try go_wp2_with (fail)
              go_meet
              exact ⟨_, _, rfl, rfl, halves_mk HMM.out HB5.out HB6.out NE.out HOZ.out HOV.out H5.out H6.out F5.out F6.out (fun k hk => .inl hk) HS1.out HS2.out HS3.out⟩
            case refine_6 =>
              go_simp
              refine hK.out _ _ (KP.out _ (HOZ.out.alloc (fun _ h => h) _)) (fun hHeld => ?_)
              clear hK K
              try simp only [Act.put, List.setIfInBounds_toArray, List.set_cons_zero, List.set_cons_succ]
              have HB6 : Hid (Blk (u5.alloc (.cells #[.slice none 0 0, .bool false, .slice none 0 0, .slice none 0 0] 41)) u5.heap.size 41 [.slice none 0 0, .bool false, .slice none 0 0, .slice none 0 0]) := Blk.new u5 41 [.slice none 0 0, .bool false, .slice none 0 0, .slice none 0 0]
              have H6 : Hid (w2.heap.size ≤ u5.heap.size) := HOZ.out.size
              have NE := Lib.hid (show v3.heap.size ≠ u5.heap.size from by have := HB5.out.lt; omega)
              replace HB5 : Hid (Blk (u5.alloc (.cells #[.slice none 0 0, .bool false, .slice none 0 0, .slice none 0 0] 41)) v3.heap.size 41 [.slice none 0 0, .bool false, .slice none 0 0, .slice none 0 0]) := HB5.out.alloc _
              replace HOZ : Hid (Only (w2.heap.size ≤ ·) w2 (u5.alloc (.cells #[.slice none 0 0, .bool false, .slice none 0 0, .slice none 0 0] 41))) := HOZ.out.alloc (fun _ h => h) _
              generalize u5.alloc (.cells #[.slice none 0 0, .bool false, .slice none 0 0, .slice none 0 0] 41) = u7 at HB6 HB5 HOZ ⊢
              refine wpAnyH_ready (rs := [5]) (by kernel_rfl) (by simp) ?_
              refine AllReadyH.cons (o := ?_) ?_ (fun K hK => ?_) AllReadyH.nil
              case refine_2 => (simp only [List.getElem?_toArray, List.getElem?_cons_succ, List.getElem?_cons_zero]; rfl)
              go_simp
              (go_at_call 32; (with_reducible refine (HCUT.out _ kk HOZ.out HMM.out).mono ?_); rintro e v4 ⟨A1, n1, c1, B1, m1, d1, P2, p2, A2, n2, c2, B2, m2, d2, rfl, s1, s2, s3, ho⟩; have HS1 := Lib.hid s1; have HS2 := Lib.hid s2; have HS3 := Lib.hid s3; have F5 : Hid ((fun k => Fz bp v k ∨ (w2.heap.size ≤ k ∧ k < u7.heap.size)) v3.heap.size ∨ v4.heap.size ≤ v3.heap.size) := .inl (.inr ⟨H5.out, HB5.out.lt⟩); have F6 : Hid ((fun k => Fz bp v k ∨ (w2.heap.size ≤ k ∧ k < u7.heap.size)) u5.heap.size ∨ v4.heap.size ≤ u5.heap.size) := .inl (.inr ⟨H6.out, HB6.out.lt⟩); (replace HB5 := Lib.hid (HB5.out.later ho)); (replace HB6 := Lib.hid (HB6.out.later ho)); (replace HOZ := Lib.hid (on_new HOZ.out ho)); have HOV : Hid (Only (v4.heap.size ≤ ·) v4 v4) := Only.refl _ _; clear ho s1 s2 s3)
              go_wp2_with (fail)
              refine hK.out _ _ (KP.out _ HOZ.out) (fun hHeld => ?_)
              clear hK K
              try simp only [Act.put, List.setIfInBounds_toArray, List.set_cons_zero, List.set_cons_succ]
              refine take_one (i := 6) (d := 22) (oi := ?_) (v := ?_) ?_ (by kernel_rfl) (by kernel_rfl) (by kernel_rfl) (fun _ _ _ h => h) ?_ ?_ ?_ (by assumption) ?_
              case refine_3 => (simp only [List.getElem?_toArray, List.getElem?_cons_succ, List.getElem?_cons_zero]; rfl)
              case refine_4 => rfl
              case refine_5 => rfl
              case refine_6 => (intro w' hSw; (try dsimp only at hSw); go_simp; (try with_reducible rfl))
              simp only [Act.put, List.setIfInBounds_toArray, List.set_cons_zero, List.set_cons_succ]
              refine take_one (i := 7) (d := 29) (oi := ?_) (v := ?_) ?_ (by kernel_rfl) (by kernel_rfl) (by kernel_rfl) (fun _ _ _ h => h) ?_ ?_ ?_ (by assumption) ?_
              case refine_3 => (simp only [List.getElem?_toArray, List.getElem?_cons_succ, List.getElem?_cons_zero]; rfl)
              case refine_4 => rfl
              case refine_5 => rfl
              case refine_6 => (intro w' hSw; (try dsimp only at hSw); go_simp; (try with_reducible rfl))
              simp only [Act.put, List.setIfInBounds_toArray, List.set_cons_zero, List.set_cons_succ]
              refine take_one (i := 8) (d := 30) (oi := ?_) (v := ?_) ?_ (by kernel_rfl) (by kernel_rfl) (by kernel_rfl) (fun _ _ _ h => h) ?_ ?_ ?_ (by assumption) ?_
              case refine_3 => (simp only [List.getElem?_toArray, List.getElem?_cons_succ, List.getElem?_cons_zero]; rfl)
              case refine_4 => rfl
              case refine_5 => rfl
              case refine_6 => (intro w' hSw; (try dsimp only at hSw); go_simp; (try with_reducible rfl))
              simp only [Act.put, List.setIfInBounds_toArray, List.set_cons_zero, List.set_cons_succ]
              refine wpAnyH_ready (rs := [11]) (by kernel_rfl) (by simp) ?_
              refine AllReadyH.cons (o := ?_) ?_ (fun K hK => ?_) AllReadyH.nil
              case refine_2 => (simp only [List.getElem?_toArray, List.getElem?_cons_succ, List.getElem?_cons_zero]; rfl)
              obtain ⟨z0, z1, z2, z3⟩ := HB5.out.four
              obtain ⟨y0, y1, y2, y3⟩ := HB6.out.four
              obtain ⟨fz0, fz1, fz2, fz3⟩ := HB5.out.melt
              obtain ⟨fy0, fy1, fy2, fy3⟩ := HB6.out.melt
              have ne1 := NE.out
              have ne2 := NE.out.symm
              go_simp
              refine hK.out _ _ (KP.out _ ((((HOZ.out.setCell (p := ⟨v3.heap.size, 0, none⟩) H5.out _).setCell (p := ⟨v3.heap.size, 1, none⟩) H5.out _).setCell (p := ⟨v3.heap.size, 2, none⟩) H5.out _).setCell (p := ⟨v3.heap.size, 3, none⟩) H5.out _)) (fun hHeld => ?_)
              clear hK K
              try simp only [Act.put, List.setIfInBounds_toArray, List.set_cons_zero, List.set_cons_succ]
              refine wpAnyH_ready (rs := [12]) (by kernel_rfl) (by simp) ?_
              refine AllReadyH.cons (o := ?_) ?_ (fun K hK => ?_) AllReadyH.nil
              case refine_2 => (simp only [List.getElem?_toArray, List.getElem?_cons_succ, List.getElem?_cons_zero]; rfl)
              go_simp
              refine hK.out _ _ (KP.out _ ((((((((HOZ.out.setCell (p := ⟨v3.heap.size, 0, none⟩) H5.out _).setCell (p := ⟨v3.heap.size, 1, none⟩) H5.out _).setCell (p := ⟨v3.heap.size, 2, none⟩) H5.out _).setCell (p := ⟨v3.heap.size, 3, none⟩) H5.out _).setCell (p := ⟨u5.heap.size, 0, none⟩) H6.out _).setCell (p := ⟨u5.heap.size, 1, none⟩) H6.out _).setCell (p := ⟨u5.heap.size, 2, none⟩) H6.out _).setCell (p := ⟨u5.heap.size, 3, none⟩) H6.out _)) (fun hHeld => ?_)
              clear hK K
              try simp only [Act.put, List.setIfInBounds_toArray, List.set_cons_zero, List.set_cons_succ]
              refine wpAnyH_done (by kernel_rfl) ?_ _
              try go_wp2_with (fail)
              go_meet
              exact ⟨_, _, rfl, rfl, halves_mk HMM.out HB5.out HB6.out NE.out HOZ.out HOV.out H5.out H6.out F5.out F6.out (fun k hk => .inl hk) HS1.out HS2.out HS3.out⟩
          case refine_9 =>
            go_simp
            refine hK.out _ _ (KP.out _ (HOZ.out.alloc (fun _ h => h) _)) (fun hHeld => ?_)
            clear hK K
            try simp only [Act.put, List.setIfInBounds_toArray, List.set_cons_zero, List.set_cons_succ]
            have HB6 : Hid (Blk (v3.alloc (.cells #[.slice none 0 0, .bool false, .slice none 0 0, .slice none 0 0] 41)) v3.heap.size 41 [.slice none 0 0, .bool false, .slice none 0 0, .slice none 0 0]) := Blk.new v3 41 [.slice none 0 0, .bool false, .slice none 0 0, .slice none 0 0]
            have H6 : Hid (w2.heap.size ≤ v3.heap.size) := HOZ.out.size
            replace HOZ : Hid (Only (w2.heap.size ≤ ·) w2 (v3.alloc (.cells #[.slice none 0 0, .bool false, .slice none 0 0, .slice none 0 0] 41))) := HOZ.out.alloc (fun _ h => h) _
            generalize v3.alloc (.cells #[.slice none 0 0, .bool false, .slice none 0 0, .slice none 0 0] 41) = u8 at HB6 HOZ ⊢
            refine wpAnyH_ready (rs := [5, 9]) (by kernel_rfl) (by simp) ?_
            refine AllReadyH.cons (o := ?_) ?_ (fun K hK => ?_) (AllReadyH.cons (o := ?_) ?_ (fun K hK => ?_) AllReadyH.nil)
            case refine_2 => (simp only [List.getElem?_toArray, List.getElem?_cons_succ, List.getElem?_cons_zero]; rfl)
            case refine_5 => (simp only [List.getElem?_toArray, List.getElem?_cons_succ, List.getElem?_cons_zero]; rfl)
            case refine_3 =>
              go_simp
              (go_at_call 32; (with_reducible refine (HCUT.out _ kk HOZ.out HMM.out).mono ?_); rintro e v4 ⟨A1, n1, c1, B1, m1, d1, P2, p2, A2, n2, c2, B2, m2, d2, rfl, s1, s2, s3, ho⟩; have HS1 := Lib.hid s1; have HS2 := Lib.hid s2; have HS3 := Lib.hid s3; have F6 : Hid ((fun k => Fz bp v k ∨ (w2.heap.size ≤ k ∧ k < u8.heap.size)) v3.heap.size ∨ v4.heap.size ≤ v3.heap.size) := .inl (.inr ⟨H6.out, HB6.out.lt⟩); (replace HB6 := Lib.hid (HB6.out.later ho)); (replace HOZ := Lib.hid (on_new HOZ.out ho)); have HOV : Hid (Only (v4.heap.size ≤ ·) v4 v4) := Only.refl _ _; clear ho s1 s2 s3)
              go_wp2_with (fail)
              refine hK.out _ _ (KP.out _ HOZ.out) (fun hHeld => ?_)
              clear hK K
              try simp only [Act.put, List.setIfInBounds_toArray, List.set_cons_zero, List.set_cons_succ]
              refine take_one (i := 6) (d := 22) (oi := ?_) (v := ?_) ?_ (by kernel_rfl) (by kernel_rfl) (by kernel_rfl) (fun _ _ _ h => h) ?_ ?_ ?_ (by assumption) ?_
              case refine_3 => (simp only [List.getElem?_toArray, List.getElem?_cons_succ, List.getElem?_cons_zero]; rfl)
              case refine_4 => rfl
              case refine_5 => rfl
              case refine_6 => (intro w' hSw; (try dsimp only at hSw); go_simp; (try with_reducible rfl))
              simp only [Act.put, List.setIfInBounds_toArray, List.set_cons_zero, List.set_cons_succ]
              refine take_one (i := 7) (d := 29) (oi := ?_) (v := ?_) ?_ (by kernel_rfl) (by kernel_rfl) (by kernel_rfl) (fun _ _ _ h => h) ?_ ?_ ?_ (by assumption) ?_
              case refine_3 => (simp only [List.getElem?_toArray, List.getElem?_cons_succ, List.getElem?_cons_zero]; rfl)
              case refine_4 => rfl
              case refine_5 => rfl
              case refine_6 => (intro w' hSw; (try dsimp only at hSw); go_simp; (try with_reducible rfl))
              simp only [Act.put, List.setIfInBounds_toArray, List.set_cons_zero, List.set_cons_succ]
              refine take_one (i := 8) (d := 30) (oi := ?_) (v := ?_) ?_ (by kernel_rfl) (by kernel_rfl) (by kernel_rfl) (fun _ _ _ h => h) ?_ ?_ ?_ (by assumption) ?_
              case refine_3 => (simp only [List.getElem?_toArray, List.getElem?_cons_succ, List.getElem?_cons_zero]; rfl)
              case refine_4 => rfl
              case refine_5 => rfl
              case refine_6 => (intro w' hSw; (try dsimp only at hSw); go_simp; (try with_reducible rfl))
              simp only [Act.put, List.setIfInBounds_toArray, List.set_cons_zero, List.set_cons_succ]
              refine wpAnyH_ready (rs := [9]) (by kernel_rfl) (by simp) ?_
              refine AllReadyH.cons (o := ?_) ?_ (fun K hK => ?_) AllReadyH.nil
              case refine_2 => (simp only [List.getElem?_toArray, List.getElem?_cons_succ, List.getElem?_cons_zero]; rfl)
              go_simp
              refine hK.out _ _ (KP.out _ (HOZ.out.alloc (fun _ h => h) _)) (fun hHeld => ?_)
              clear hK K
              try simp only [Act.put, List.setIfInBounds_toArray, List.set_cons_zero, List.set_cons_succ]
              have HB5 : Hid (Blk (v4.alloc (.cells #[.slice none 0 0, .bool false, .slice none 0 0, .slice none 0 0] 41)) v4.heap.size 41 [.slice none 0 0, .bool false, .slice none 0 0, .slice none 0 0]) := Blk.new v4 41 [.slice none 0 0, .bool false, .slice none 0 0, .slice none 0 0]
              have H5 : Hid (w2.heap.size ≤ v4.heap.size) := HOZ.out.size
              have NE := Lib.hid (show v4.heap.size ≠ v3.heap.size from by have := HB6.out.lt; omega)
              replace HB6 : Hid (Blk (v4.alloc (.cells #[.slice none 0 0, .bool false, .slice none 0 0, .slice none 0 0] 41)) v3.heap.size 41 [.slice none 0 0, .bool false, .slice none 0 0, .slice none 0 0]) := HB6.out.alloc _
              have F5 : Hid ((fun k => Fz bp v k ∨ (w2.heap.size ≤ k ∧ k < u8.heap.size)) v4.heap.size ∨ v4.heap.size ≤ v4.heap.size) := .inr HOV.out.size
              replace HOV : Hid (Only (v4.heap.size ≤ ·) v4 (v4.alloc (.cells #[.slice none 0 0, .bool false, .slice none 0 0, .slice none 0 0] 41))) := HOV.out.alloc (fun _ h => h) _
              replace HOZ : Hid (Only (w2.heap.size ≤ ·) w2 (v4.alloc (.cells #[.slice none 0 0, .bool false, .slice none 0 0, .slice none 0 0] 41))) := HOZ.out.alloc (fun _ h => h) _
              generalize v4.alloc (.cells #[.slice none 0 0, .bool false, .slice none 0 0, .slice none 0 0] 41) = u9 at HB5 HB6 HOV HOZ ⊢
              refine wpAnyH_ready (rs := [11]) (by kernel_rfl) (by simp) ?_
              refine AllReadyH.cons (o := ?_) ?_ (fun K hK => ?_) AllReadyH.nil
              case refine_2 => (simp only [List.getElem?_toArray, List.getElem?_cons_succ, List.getElem?_cons_zero]; rfl)
              obtain ⟨z0, z1, z2, z3⟩ := HB5.out.four
              obtain ⟨y0, y1, y2, y3⟩ := HB6.out.four
              obtain ⟨fz0, fz1, fz2, fz3⟩ := HB5.out.melt
              obtain ⟨fy0, fy1, fy2, fy3⟩ := HB6.out.melt
              have ne1 := NE.out
              have ne2 := NE.out.symm
              go_simp
              refine hK.out _ _ (KP.out _ ((((HOZ.out.setCell (p := ⟨v4.heap.size, 0, none⟩) H5.out _).setCell (p := ⟨v4.heap.size, 1, none⟩) H5.out _).setCell (p := ⟨v4.heap.size, 2, none⟩) H5.out _).setCell (p := ⟨v4.heap.size, 3, none⟩) H5.out _)) (fun hHeld => ?_)
              clear hK K
              try simp only [Act.put, List.setIfInBounds_toArray, List.set_cons_zero, List.set_cons_succ]
              refine wpAnyH_ready (rs := [12]) (by kernel_rfl) (by simp) ?_
              refine AllReadyH.cons (o := ?_) ?_ (fun K hK => ?_) AllReadyH.nil
              case refine_2 => (simp only [List.getElem?_toArray, List.getElem?_cons_succ, List.getElem?_cons_zero]; rfl)
              go_simp
              refine hK.out _ _ (KP.out _ ((((((((HOZ.out.setCell (p := ⟨v4.heap.size, 0, none⟩) H5.out _).setCell (p := ⟨v4.heap.size, 1, none⟩) H5.out _).setCell (p := ⟨v4.heap.size, 2, none⟩) H5.out _).setCell (p := ⟨v4.heap.size, 3, none⟩) H5.out _).setCell (p := ⟨v3.heap.size, 0, none⟩) H6.out _).setCell (p := ⟨v3.heap.size, 1, none⟩) H6.out _).setCell (p := ⟨v3.heap.size, 2, none⟩) H6.out _).setCell (p := ⟨v3.heap.size, 3, none⟩) H6.out _)) (fun hHeld => ?_)
              clear hK K
              try simp only [Act.put, List.setIfInBounds_toArray, List.set_cons_zero, List.set_cons_succ]
              refine wpAnyH_done (by kernel_rfl) ?_ _
              try go_wp2_with (fail)
              go_meet
              exact ⟨_, _, rfl, rfl, halves_mk HMM.out HB5.out HB6.out NE.out HOZ.out HOV.out H5.out H6.out F5.out F6.out (fun k hk => .inl hk) HS1.out HS2.out HS3.out⟩
            case refine_6 =>
              go_simp
              refine hK.out _ _ (KP.out _ (HOZ.out.alloc (fun _ h => h) _)) (fun hHeld => ?_)
              clear hK K
              try simp only [Act.put, List.setIfInBounds_toArray, List.set_cons_zero, List.set_cons_succ]
              have HB5 : Hid (Blk (u8.alloc (.cells #[.slice none 0 0, .bool false, .slice none 0 0, .slice none 0 0] 41)) u8.heap.size 41 [.slice none 0 0, .bool false, .slice none 0 0, .slice none 0 0]) := Blk.new u8 41 [.slice none 0 0, .bool false, .slice none 0 0, .slice none 0 0]
              have H5 : Hid (w2.heap.size ≤ u8.heap.size) := HOZ.out.size
              have NE := Lib.hid (show u8.heap.size ≠ v3.heap.size from by have := HB6.out.lt; omega)
              replace HB6 : Hid (Blk (u8.alloc (.cells #[.slice none 0 0, .bool false, .slice none 0 0, .slice none 0 0] 41)) v3.heap.size 41 [.slice none 0 0, .bool false, .slice none 0 0, .slice none 0 0]) := HB6.out.alloc _
              replace HOZ : Hid (Only (w2.heap.size ≤ ·) w2 (u8.alloc (.cells #[.slice none 0 0, .bool false, .slice none 0 0, .slice none 0 0] 41))) := HOZ.out.alloc (fun _ h => h) _
              generalize u8.alloc (.cells #[.slice none 0 0, .bool false, .slice none 0 0, .slice none 0 0] 41) = u10 at HB5 HB6 HOZ ⊢
              refine wpAnyH_ready (rs := [5]) (by kernel_rfl) (by simp) ?_
              refine AllReadyH.cons (o := ?_) ?_ (fun K hK => ?_) AllReadyH.nil
              case refine_2 => (simp only [List.getElem?_toArray, List.getElem?_cons_succ, List.getElem?_cons_zero]; rfl)
              go_simp
              (go_at_call 32; (with_reducible refine (HCUT.out _ kk HOZ.out HMM.out).mono ?_); rintro e v4 ⟨A1, n1, c1, B1, m1, d1, P2, p2, A2, n2, c2, B2, m2, d2, rfl, s1, s2, s3, ho⟩; have HS1 := Lib.hid s1; have HS2 := Lib.hid s2; have HS3 := Lib.hid s3; have F5 : Hid ((fun k => Fz bp v k ∨ (w2.heap.size ≤ k ∧ k < u10.heap.size)) u8.heap.size ∨ v4.heap.size ≤ u8.heap.size) := .inl (.inr ⟨H5.out, HB5.out.lt⟩); have F6 : Hid ((fun k => Fz bp v k ∨ (w2.heap.size ≤ k ∧ k < u10.heap.size)) v3.heap.size ∨ v4.heap.size ≤ v3.heap.size) := .inl (.inr ⟨H6.out, HB6.out.lt⟩); (replace HB5 := Lib.hid (HB5.out.later ho)); (replace HB6 := Lib.hid (HB6.out.later ho)); (replace HOZ := Lib.hid (on_new HOZ.out ho)); have HOV : Hid (Only (v4.heap.size ≤ ·) v4 v4) := Only.refl _ _; clear ho s1 s2 s3)
              go_wp2_with (fail)
              refine hK.out _ _ (KP.out _ HOZ.out) (fun hHeld => ?_)
              clear hK K
              try simp only [Act.put, List.setIfInBounds_toArray, List.set_cons_zero, List.set_cons_succ]
              refine take_one (i := 6) (d := 22) (oi := ?_) (v := ?_) ?_ (by kernel_rfl) (by kernel_rfl) (by kernel_rfl) (fun _ _ _ h => h) ?_ ?_ ?_ (by assumption) ?_
              case refine_3 => (simp only [List.getElem?_toArray, List.getElem?_cons_succ, List.getElem?_cons_zero]; rfl)
              case refine_4 => rfl
              case refine_5 => rfl
              case refine_6 => (intro w' hSw; (try dsimp only at hSw); go_simp; (try with_reducible rfl))
              simp only [Act.put, List.setIfInBounds_toArray, List.set_cons_zero, List.set_cons_succ]
              refine take_one (i := 7) (d := 29) (oi := ?_) (v := ?_) ?_ (by kernel_rfl) (by kernel_rfl) (by kernel_rfl) (fun _ _ _ h => h) ?_ ?_ ?_ (by assumption) ?_
              case refine_3 => (simp only [List.getElem?_toArray, List.getElem?_cons_succ, List.getElem?_cons_zero]; rfl)
              case refine_4 => rfl
              case refine_5 => rfl
              case refine_6 => (intro w' hSw; (try dsimp only at hSw); go_simp; (try with_reducible rfl))
              simp only [Act.put, List.setIfInBounds_toArray, List.set_cons_zero, List.set_cons_succ]
              refine take_one (i := 8) (d := 30) (oi := ?_) (v := ?_) ?_ (by kernel_rfl) (by kernel_rfl) (by kernel_rfl) (fun _ _ _ h => h) ?_ ?_ ?_ (by assumption) ?_
              case refine_3 => (simp only [List.getElem?_toArray, List.getElem?_cons_succ, List.getElem?_cons_zero]; rfl)
              case refine_4 => rfl
              case refine_5 => rfl
              case refine_6 => (intro w' hSw; (try dsimp only at hSw); go_simp; (try with_reducible rfl))
              simp only [Act.put, List.setIfInBounds_toArray, List.set_cons_zero, List.set_cons_succ]
              refine wpAnyH_ready (rs := [11]) (by kernel_rfl) (by simp) ?_
              refine AllReadyH.cons (o := ?_) ?_ (fun K hK => ?_) AllReadyH.nil
              case refine_2 => (simp only [List.getElem?_toArray, List.getElem?_cons_succ, List.getElem?_cons_zero]; rfl)
              obtain ⟨z0, z1, z2, z3⟩ := HB5.out.four
              obtain ⟨y0, y1, y2, y3⟩ := HB6.out.four
              obtain ⟨fz0, fz1, fz2, fz3⟩ := HB5.out.melt
              obtain ⟨fy0, fy1, fy2, fy3⟩ := HB6.out.melt
              have ne1 := NE.out
              have ne2 := NE.out.symm
              go_simp
              refine hK.out _ _ (KP.out _ ((((HOZ.out.setCell (p := ⟨u8.heap.size, 0, none⟩) H5.out _).setCell (p := ⟨u8.heap.size, 1, none⟩) H5.out _).setCell (p := ⟨u8.heap.size, 2, none⟩) H5.out _).setCell (p := ⟨u8.heap.size, 3, none⟩) H5.out _)) (fun hHeld => ?_)
              clear hK K
              try simp only [Act.put, List.setIfInBounds_toArray, List.set_cons_zero, List.set_cons_succ]
              refine wpAnyH_ready (rs := [12]) (by kernel_rfl) (by simp) ?_
              refine AllReadyH.cons (o := ?_) ?_ (fun K hK => ?_) AllReadyH.nil
              case refine_2 => (simp only [List.getElem?_toArray, List.getElem?_cons_succ, List.getElem?_cons_zero]; rfl)
              go_simp
              refine hK.out _ _ (KP.out _ ((((((((HOZ.out.setCell (p := ⟨u8.heap.size, 0, none⟩) H5.out _).setCell (p := ⟨u8.heap.size, 1, none⟩) H5.out _).setCell (p := ⟨u8.heap.size, 2, none⟩) H5.out _).setCell (p := ⟨u8.heap.size, 3, none⟩) H5.out _).setCell (p := ⟨v3.heap.size, 0, none⟩) H6.out _).setCell (p := ⟨v3.heap.size, 1, none⟩) H6.out _).setCell (p := ⟨v3.heap.size, 2, none⟩) H6.out _).setCell (p := ⟨v3.heap.size, 3, none⟩) H6.out _)) (fun hHeld => ?_)
              clear hK K
              try simp only [Act.put, List.setIfInBounds_toArray, List.set_cons_zero, List.set_cons_succ]
              refine wpAnyH_done (by kernel_rfl) ?_ _
              try go_wp2_with (fail)
              go_meet
              exact ⟨_, _, rfl, rfl, halves_mk HMM.out HB5.out HB6.out NE.out HOZ.out HOV.out H5.out H6.out F5.out F6.out (fun k hk => .inl hk) HS1.out HS2.out HS3.out⟩
        case refine_6 =>
          go_simp
          refine hK.out _ _ (KP.out _ (HOZ.out.alloc (fun _ h => h) _)) (fun hHeld => ?_)
          clear hK K
          try simp only [Act.put, List.setIfInBounds_toArray, List.set_cons_zero, List.set_cons_succ]
          have HB5 : Hid (Blk (u0.alloc (.cells #[.slice none 0 0, .bool false, .slice none 0 0, .slice none 0 0] 41)) u0.heap.size 41 [.slice none 0 0, .bool false, .slice none 0 0, .slice none 0 0]) := Blk.new u0 41 [.slice none 0 0, .bool false, .slice none 0 0, .slice none 0 0]
          have H5 : Hid (w2.heap.size ≤ u0.heap.size) := HOZ.out.size
          replace HOZ : Hid (Only (w2.heap.size ≤ ·) w2 (u0.alloc (.cells #[.slice none 0 0, .bool false, .slice none 0 0, .slice none 0 0] 41))) := HOZ.out.alloc (fun _ h => h) _
          generalize u0.alloc (.cells #[.slice none 0 0, .bool false, .slice none 0 0, .slice none 0 0] 41) = u11 at HB5 HOZ ⊢
          refine wpAnyH_ready (rs := [4, 10]) (by kernel_rfl) (by simp) ?_
          refine AllReadyH.cons (o := ?_) ?_ (fun K hK => ?_) (AllReadyH.cons (o := ?_) ?_ (fun K hK => ?_) AllReadyH.nil)
          case refine_2 => (simp only [List.getElem?_toArray, List.getElem?_cons_succ, List.getElem?_cons_zero]; rfl)
          case refine_5 => (simp only [List.getElem?_toArray, List.getElem?_cons_succ, List.getElem?_cons_zero]; rfl)
          case refine_3 =>
            go_simp
            (go_at_call 33; (with_reducible refine (HMID.out _ HOZ.out).mono ?_); rintro e v3 ⟨kk, rfl, hmid, ho⟩; have HMM := Lib.hid hmid; (replace HB5 := Lib.hid (HB5.out.later ho)); (replace HOZ := Lib.hid (on_new HOZ.out ho)); clear ho hmid)
            go_wp2_with (fail)
            refine hK.out _ _ (KP.out _ HOZ.out) (fun hHeld => ?_)
            clear hK K
            try simp only [Act.put, List.setIfInBounds_toArray, List.set_cons_zero, List.set_cons_succ]
            refine wpAnyH_ready (rs := [5, 10]) (by kernel_rfl) (by simp) ?_
            refine AllReadyH.cons (o := ?_) ?_ (fun K hK => ?_) (AllReadyH.cons (o := ?_) ?_ (fun K hK => ?_) AllReadyH.nil)
            case refine_2 => (simp only [List.getElem?_toArray, List.getElem?_cons_succ, List.getElem?_cons_zero]; rfl)
            case refine_5 => (simp only [List.getElem?_toArray, List.getElem?_cons_succ, List.getElem?_cons_zero]; rfl)
            case refine_3 =>
              go_simp
              (go_at_call 32; (with_reducible refine (HCUT.out _ kk HOZ.out HMM.out).mono ?_); rintro e v4 ⟨A1, n1, c1, B1, m1, d1, P2, p2, A2, n2, c2, B2, m2, d2, rfl, s1, s2, s3, ho⟩; have HS1 := Lib.hid s1; have HS2 := Lib.hid s2; have HS3 := Lib.hid s3; have F5 : Hid ((fun k => Fz bp v k ∨ (w2.heap.size ≤ k ∧ k < v3.heap.size)) u0.heap.size ∨ v4.heap.size ≤ u0.heap.size) := .inl (.inr ⟨H5.out, HB5.out.lt⟩); (replace HB5 := Lib.hid (HB5.out.later ho)); (replace HOZ := Lib.hid (on_new HOZ.out ho)); have HOV : Hid (Only (v4.heap.size ≤ ·) v4 v4) := Only.refl _ _; clear ho s1 s2 s3)
              go_wp2_with (fail)
              refine hK.out _ _ (KP.out _ HOZ.out) (fun hHeld => ?_)
              clear hK K
              try simp only [Act.put, List.setIfInBounds_toArray, List.set_cons_zero, List.set_cons_succ]
              refine take_one (i := 6) (d := 22) (oi := ?_) (v := ?_) ?_ (by kernel_rfl) (by kernel_rfl) (by kernel_rfl) (fun _ _ _ h => h) ?_ ?_ ?_ (by assumption) ?_
              case refine_3 => (simp only [List.getElem?_toArray, List.getElem?_cons_succ, List.getElem?_cons_zero]; rfl)
              case refine_4 => rfl
              case refine_5 => rfl
              case refine_6 => (intro w' hSw; (try dsimp only at hSw); go_simp; (try with_reducible rfl))
              simp only [Act.put, List.setIfInBounds_toArray, List.set_cons_zero, List.set_cons_succ]
              refine take_one (i := 7) (d := 29) (oi := ?_) (v := ?_) ?_ (by kernel_rfl) (by kernel_rfl) (by kernel_rfl) (fun _ _ _ h => h) ?_ ?_ ?_ (by assumption) ?_
              case refine_3 => (simp only [List.getElem?_toArray, List.getElem?_cons_succ, List.getElem?_cons_zero]; rfl)
              case refine_4 => rfl
              case refine_5 => rfl
              case refine_6 => (intro w' hSw; (try dsimp only at hSw); go_simp; (try with_reducible rfl))
              simp only [Act.put, List.setIfInBounds_toArray, List.set_cons_zero, List.set_cons_succ]
              refine take_one (i := 8) (d := 30) (oi := ?_) (v := ?_) ?_ (by kernel_rfl) (by kernel_rfl) (by kernel_rfl) (fun _ _ _ h => h) ?_ ?_ ?_ (by assumption) ?_
              case refine_3 => (simp only [List.getElem?_toArray, List.getElem?_cons_succ, List.getElem?_cons_zero]; rfl)
              case refine_4 => rfl
              case refine_5 => rfl
              case refine_6 => (intro w' hSw; (try dsimp only at hSw); go_simp; (try with_reducible rfl))
              simp only [Act.put, List.setIfInBounds_toArray, List.set_cons_zero, List.set_cons_succ]
              refine wpAnyH_ready (rs := [10]) (by kernel_rfl) (by simp) ?_
              refine AllReadyH.cons (o := ?_) ?_ (fun K hK => ?_) AllReadyH.nil
              case refine_2 => (simp only [List.getElem?_toArray, List.getElem?_cons_succ, List.getElem?_cons_zero]; rfl)
              go_simp
              refine hK.out _ _ (KP.out _ (HOZ.out.alloc (fun _ h => h) _)) (fun hHeld => ?_)
              clear hK K
              try simp only [Act.put, List.setIfInBounds_toArray, List.set_cons_zero, List.set_cons_succ]
              have HB6 : Hid (Blk (v4.alloc (.cells #[.slice none 0 0, .bool false, .slice none 0 0, .slice none 0 0] 41)) v4.heap.size 41 [.slice none 0 0, .bool false, .slice none 0 0, .slice none 0 0]) := Blk.new v4 41 [.slice none 0 0, .bool false, .slice none 0 0, .slice none 0 0]
              have H6 : Hid (w2.heap.size ≤ v4.heap.size) := HOZ.out.size
              have NE := Lib.hid (show u0.heap.size ≠ v4.heap.size from by have := HB5.out.lt; omega)
              replace HB5 : Hid (Blk (v4.alloc (.cells #[.slice none 0 0, .bool false, .slice none 0 0, .slice none 0 0] 41)) u0.heap.size 41 [.slice none 0 0, .bool false, .slice none 0 0, .slice none 0 0]) := HB5.out.alloc _
              have F6 : Hid ((fun k => Fz bp v k ∨ (w2.heap.size ≤ k ∧ k < v3.heap.size)) v4.heap.size ∨ v4.heap.size ≤ v4.heap.size) := .inr HOV.out.size
              replace HOV : Hid (Only (v4.heap.size ≤ ·) v4 (v4.alloc (.cells #[.slice none 0 0, .bool false, .slice none 0 0, .slice none 0 0] 41))) := HOV.out.alloc (fun _ h => h) _
              replace HOZ : Hid (Only (w2.heap.size ≤ ·) w2 (v4.alloc (.cells #[.slice none 0 0, .bool false, .slice none 0 0, .slice none 0 0] 41))) := HOZ.out.alloc (fun _ h => h) _
              generalize v4.alloc (.cells #[.slice none 0 0, .bool false, .slice none 0 0, .slice none 0 0] 41) = u12 at HB6 HB5 HOV HOZ ⊢
              refine wpAnyH_ready (rs := [11]) (by kernel_rfl) (by simp) ?_
              refine AllReadyH.cons (o := ?_) ?_ (fun K hK => ?_) AllReadyH.nil
              case refine_2 => (simp only [List.getElem?_toArray, List.getElem?_cons_succ, List.getElem?_cons_zero]; rfl)
              obtain ⟨z0, z1, z2, z3⟩ := HB5.out.four
              obtain ⟨y0, y1, y2, y3⟩ := HB6.out.four
              obtain ⟨fz0, fz1, fz2, fz3⟩ := HB5.out.melt
              obtain ⟨fy0, fy1, fy2, fy3⟩ := HB6.out.melt
              have ne1 := NE.out
              have ne2 := NE.out.symm
              go_simp
              refine hK.out _ _ (KP.out _ ((((HOZ.out.setCell (p := ⟨u0.heap.size, 0, none⟩) H5.out _).setCell (p := ⟨u0.heap.size, 1, none⟩) H5.out _).setCell (p := ⟨u0.heap.size, 2, none⟩) H5.out _).setCell (p := ⟨u0.heap.size, 3, none⟩) H5.out _)) (fun hHeld => ?_)
              clear hK K
              try simp only [Act.put, List.setIfInBounds_toArray, List.set_cons_zero, List.set_cons_succ]
              refine wpAnyH_ready (rs := [12]) (by kernel_rfl) (by simp) ?_
              refine AllReadyH.cons (o := ?_) ?_ (fun K hK => ?_) AllReadyH.nil
              case refine_2 => (simp only [List.getElem?_toArray, List.getElem?_cons_succ, List.getElem?_cons_zero]; rfl)
              go_simp
              refine hK.out _ _ (KP.out _ ((((((((HOZ.out.setCell (p := ⟨u0.heap.size, 0, none⟩) H5.out _).setCell (p := ⟨u0.heap.size, 1, none⟩) H5.out _).setCell (p := ⟨u0.heap.size, 2, none⟩) H5.out _).setCell (p := ⟨u0.heap.size, 3, none⟩) H5.out _).setCell (p := ⟨v4.heap.size, 0, none⟩) H6.out _).setCell (p := ⟨v4.heap.size, 1, none⟩) H6.out _).setCell (p := ⟨v4.heap.size, 2, none⟩) H6.out _).setCell (p := ⟨v4.heap.size, 3, none⟩) H6.out _)) (fun hHeld => ?_)
              clear hK K
              try simp only [Act.put, List.setIfInBounds_toArray, List.set_cons_zero, List.set_cons_succ]
              refine wpAnyH_done (by kernel_rfl) ?_ _
              try go_wp2_with (fail)
              go_meet
              exact ⟨_, _, rfl, rfl, halves_mk HMM.out HB5.out HB6.out NE.out HOZ.out HOV.out H5.out H6.out F5.out F6.out (fun k hk => .inl hk) HS1.out HS2.out HS3.out⟩
            case refine_6 =>
              go_simp
              refine hK.out _ _ (KP.out _ (HOZ.out.alloc (fun _ h => h) _)) (fun hHeld => ?_)
              clear hK K
              try simp only [Act.put, List.setIfInBounds_toArray, List.set_cons_zero, List.set_cons_succ]
              have HB6 : Hid (Blk (v3.alloc (.cells #[.slice none 0 0, .bool false, .slice none 0 0, .slice none 0 0] 41)) v3.heap.size 41 [.slice none 0 0, .bool false, .slice none 0 0, .slice none 0 0]) := Blk.new v3 41 [.slice none 0 0, .bool false, .slice none 0 0, .slice none 0 0]
              have H6 : Hid (w2.heap.size ≤ v3.heap.size) := HOZ.out.size
              have NE := Lib.hid (show u0.heap.size ≠ v3.heap.size from by have := HB5.out.lt; omega)
              replace HB5 : Hid (Blk (v3.alloc (.cells #[.slice none 0 0, .bool false, .slice none 0 0, .slice none 0 0] 41)) u0.heap.size 41 [.slice none 0 0, .bool false, .slice none 0 0, .slice none 0 0]) := HB5.out.alloc _
              replace HOZ : Hid (Only (w2.heap.size ≤ ·) w2 (v3.alloc (.cells #[.slice none 0 0, .bool false, .slice none 0 0, .slice none 0 0] 41))) := HOZ.out.alloc (fun _ h => h) _
              generalize v3.alloc (.cells #[.slice none 0 0, .bool false, .slice none 0 0, .slice none 0 0] 41) = u13 at HB6 HB5 HOZ ⊢
              refine wpAnyH_ready (rs := [5]) (by kernel_rfl) (by simp) ?_
              refine AllReadyH.cons (o := ?_) ?_ (fun K hK => ?_) AllReadyH.nil
              case refine_2 => (simp only [List.getElem?_toArray, List.getElem?_cons_succ, List.getElem?_cons_zero]; rfl)
              go_simp
              (go_at_call 32; (with_reducible refine (HCUT.out _ kk HOZ.out HMM.out).mono ?_); rintro e v4 ⟨A1, n1, c1, B1, m1, d1, P2, p2, A2, n2, c2, B2, m2, d2, rfl, s1, s2, s3, ho⟩; have HS1 := Lib.hid s1; have HS2 := Lib.hid s2; have HS3 := Lib.hid s3; have F5 : Hid ((fun k => Fz bp v k ∨ (w2.heap.size ≤ k ∧ k < u13.heap.size)) u0.heap.size ∨ v4.heap.size ≤ u0.heap.size) := .inl (.inr ⟨H5.out, HB5.out.lt⟩); have F6 : Hid ((fun k => Fz bp v k ∨ (w2.heap.size ≤ k ∧ k < u13.heap.size)) v3.heap.size ∨ v4.heap.size ≤ v3.heap.size) := .inl (.inr ⟨H6.out, HB6.out.lt⟩); (replace HB5 := Lib.hid (HB5.out.later ho)); (replace HB6 := Lib.hid (HB6.out.later ho)); (replace HOZ := Lib.hid (on_new HOZ.out ho)); have HOV : Hid (Only (v4.heap.size ≤ ·) v4 v4) := Only.refl _ _; clear ho s1 s2 s3)
              go_wp2_with (fail)
              refine hK.out _ _ (KP.out _ HOZ.out) (fun hHeld => ?_)
              clear hK K
              try simp only [Act.put, List.setIfInBounds_toArray, List.set_cons_zero, List.set_cons_succ]
              refine take_one (i := 6) (d := 22) (oi := ?_) (v := ?_) ?_ (by kernel_rfl) (by kernel_rfl) (by kernel_rfl) (fun _ _ _ h => h) ?_ ?_ ?_ (by assumption) ?_
              case refine_3 => (simp only [List.getElem?_toArray, List.getElem?_cons_succ, List.getElem?_cons_zero]; rfl)
              case refine_4 => rfl
              case refine_5 => rfl
              case refine_6 => (intro w' hSw; (try dsimp only at hSw); go_simp; (try with_reducible rfl))
              simp only [Act.put, List.setIfInBounds_toArray, List.set_cons_zero, List.set_cons_succ]
              refine take_one (i := 7) (d := 29) (oi := ?_) (v := ?_) ?_ (by kernel_rfl) (by kernel_rfl) (by kernel_rfl) (fun _ _ _ h => h) ?_ ?_ ?_ (by assumption) ?_
              case refine_3 => (simp only [List.getElem?_toArray, List.getElem?_cons_succ, List.getElem?_cons_zero]; rfl)
              case refine_4 => rfl
              case refine_5 => rfl
              case refine_6 => (intro w' hSw; (try dsimp only at hSw); go_simp; (try with_reducible rfl))
              simp only [Act.put, List.setIfInBounds_toArray, List.set_cons_zero, List.set_cons_succ]
              refine take_one (i := 8) (d := 30) (oi := ?_) (v := ?_) ?_ (by kernel_rfl) (by kernel_rfl) (by kernel_rfl) (fun _ _ _ h => h) ?_ ?_ ?_ (by assumption) ?_
              case refine_3 => (simp only [List.getElem?_toArray, List.getElem?_cons_succ, List.getElem?_cons_zero]; rfl)
              case refine_4 => rfl
              case refine_5 => rfl
              case refine_6 => (intro w' hSw; (try dsimp only at hSw); go_simp; (try with_reducible rfl))
              simp only [Act.put, List.setIfInBounds_toArray, List.set_cons_zero, List.set_cons_succ]
              refine wpAnyH_ready (rs := [11]) (by kernel_rfl) (by simp) ?_
              refine AllReadyH.cons (o := ?_) ?_ (fun K hK => ?_) AllReadyH.nil
              case refine_2 => (simp only [List.getElem?_toArray, List.getElem?_cons_succ, List.getElem?_cons_zero]; rfl)
              obtain ⟨z0, z1, z2, z3⟩ := HB5.out.four
              obtain ⟨y0, y1, y2, y3⟩ := HB6.out.four
              obtain ⟨fz0, fz1, fz2, fz3⟩ := HB5.out.melt
              obtain ⟨fy0, fy1, fy2, fy3⟩ := HB6.out.melt
              have ne1 := NE.out
              have ne2 := NE.out.symm
              go_simp
              refine hK.out _ _ (KP.out _ ((((HOZ.out.setCell (p := ⟨u0.heap.size, 0, none⟩) H5.out _).setCell (p := ⟨u0.heap.size, 1, none⟩) H5.out _).setCell (p := ⟨u0.heap.size, 2, none⟩) H5.out _).setCell (p := ⟨u0.heap.size, 3, none⟩) H5.out _)) (fun hHeld => ?_)
              clear hK K
              try simp only [Act.put, List.setIfInBounds_toArray, List.set_cons_zero, List.set_cons_succ]
              refine wpAnyH_ready (rs := [12]) (by kernel_rfl) (by simp) ?_
              refine AllReadyH.cons (o := ?_) ?_ (fun K hK => ?_) AllReadyH.nil
              case refine_2 => (simp only [List.getElem?_toArray, List.getElem?_cons_succ, List.getElem?_cons_zero]; rfl)
              go_simp
              refine hK.out _ _ (KP.out _ ((((((((HOZ.out.setCell (p := ⟨u0.heap.size, 0, none⟩) H5.out _).setCell (p := ⟨u0.heap.size, 1, none⟩) H5.out _).setCell (p := ⟨u0.heap.size, 2, none⟩) H5.out _).setCell (p := ⟨u0.heap.size, 3, none⟩) H5.out _).setCell (p := ⟨v3.heap.size, 0, none⟩) H6.out _).setCell (p := ⟨v3.heap.size, 1, none⟩) H6.out _).setCell (p := ⟨v3.heap.size, 2, none⟩) H6.out _).setCell (p := ⟨v3.heap.size, 3, none⟩) H6.out _)) (fun hHeld => ?_)
              clear hK K
              try simp only [Act.put, List.setIfInBounds_toArray, List.set_cons_zero, List.set_cons_succ]
              refine wpAnyH_done (by kernel_rfl) ?_ _
              try go_wp2_with (fail)
              go_meet
              exact ⟨_, _, rfl, rfl, halves_mk HMM.out HB5.out HB6.out NE.out HOZ.out HOV.out H5.out H6.out F5.out F6.out (fun k hk => .inl hk) HS1.out HS2.out HS3.out⟩
          case refine_6 =>
            go_simp
            refine hK.out _ _ (KP.out _ (HOZ.out.alloc (fun _ h => h) _)) (fun hHeld => ?_)
            clear hK K
            try simp only [Act.put, List.setIfInBounds_toArray, List.set_cons_zero, List.set_cons_succ]
            have HB6 : Hid (Blk (u11.alloc (.cells #[.slice none 0 0, .bool false, .slice none 0 0, .slice none 0 0] 41)) u11.heap.size 41 [.slice none 0 0, .bool false, .slice none 0 0, .slice none 0 0]) := Blk.new u11 41 [.slice none 0 0, .bool false, .slice none 0 0, .slice none 0 0]
            have H6 : Hid (w2.heap.size ≤ u11.heap.size) := HOZ.out.size
            have NE := Lib.hid (show u0.heap.size ≠ u11.heap.size from by have := HB5.out.lt; omega)
            replace HB5 : Hid (Blk (u11.alloc (.cells #[.slice none 0 0, .bool false, .slice none 0 0, .slice none 0 0] 41)) u0.heap.size 41 [.slice none 0 0, .bool false, .slice none 0 0, .slice none 0 0]) := HB5.out.alloc _
            replace HOZ : Hid (Only (w2.heap.size ≤ ·) w2 (u11.alloc (.cells #[.slice none 0 0, .bool false, .slice none 0 0, .slice none 0 0] 41))) := HOZ.out.alloc (fun _ h => h) _
            generalize u11.alloc (.cells #[.slice none 0 0, .bool false, .slice none 0 0, .slice none 0 0] 41) = u14 at HB6 HB5 HOZ ⊢
            refine wpAnyH_ready (rs := [4]) (by kernel_rfl) (by simp) ?_
            refine AllReadyH.cons (o := ?_) ?_ (fun K hK => ?_) AllReadyH.nil
            case refine_2 => (simp only [List.getElem?_toArray, List.getElem?_cons_succ, List.getElem?_cons_zero]; rfl)
            go_simp
            (go_at_call 33; (with_reducible refine (HMID.out _ HOZ.out).mono ?_); rintro e v3 ⟨kk, rfl, hmid, ho⟩; have HMM := Lib.hid hmid; (replace HB5 := Lib.hid (HB5.out.later ho)); (replace HB6 := Lib.hid (HB6.out.later ho)); (replace HOZ := Lib.hid (on_new HOZ.out ho)); clear ho hmid)
            go_wp2_with (fail)
            refine hK.out _ _ (KP.out _ HOZ.out) (fun hHeld => ?_)
            clear hK K
            try simp only [Act.put, List.setIfInBounds_toArray, List.set_cons_zero, List.set_cons_succ]
            refine wpAnyH_ready (rs := [5]) (by kernel_rfl) (by simp) ?_
            refine AllReadyH.cons (o := ?_) ?_ (fun K hK => ?_) AllReadyH.nil
            case refine_2 => (simp only [List.getElem?_toArray, List.getElem?_cons_succ, List.getElem?_cons_zero]; rfl)
            go_simp
            (go_at_call 32; (with_reducible refine (HCUT.out _ kk HOZ.out HMM.out).mono ?_); rintro e v4 ⟨A1, n1, c1, B1, m1, d1, P2, p2, A2, n2, c2, B2, m2, d2, rfl, s1, s2, s3, ho⟩; have HS1 := Lib.hid s1; have HS2 := Lib.hid s2; have HS3 := Lib.hid s3; have F5 : Hid ((fun k => Fz bp v k ∨ (w2.heap.size ≤ k ∧ k < v3.heap.size)) u0.heap.size ∨ v4.heap.size ≤ u0.heap.size) := .inl (.inr ⟨H5.out, HB5.out.lt⟩); have F6 : Hid ((fun k => Fz bp v k ∨ (w2.heap.size ≤ k ∧ k < v3.heap.size)) u11.heap.size ∨ v4.heap.size ≤ u11.heap.size) := .inl (.inr ⟨H6.out, HB6.out.lt⟩); (replace HB5 := Lib.hid (HB5.out.later ho)); (replace HB6 := Lib.hid (HB6.out.later ho)); (replace HOZ := Lib.hid (on_new HOZ.out ho)); have HOV : Hid (Only (v4.heap.size ≤ ·) v4 v4) := Only.refl _ _; clear ho s1 s2 s3)
            go_wp2_with (fail)
            refine hK.out _ _ (KP.out _ HOZ.out) (fun hHeld => ?_)
            clear hK K
            try simp only [Act.put, List.setIfInBounds_toArray, List.set_cons_zero, List.set_cons_succ]
            refine take_one (i := 6) (d := 22) (oi := ?_) (v := ?_) ?_ (by kernel_rfl) (by kernel_rfl) (by kernel_rfl) (fun _ _ _ h => h) ?_ ?_ ?_ (by assumption) ?_
            case refine_3 => (simp only [List.getElem?_toArray, List.getElem?_cons_succ, List.getElem?_cons_zero]; rfl)
            case refine_4 => rfl
            case refine_5 => rfl
            case refine_6 => (intro w' hSw; (try dsimp only at hSw); go_simp; (try with_reducible rfl))
            simp only [Act.put, List.setIfInBounds_toArray, List.set_cons_zero, List.set_cons_succ]
            refine take_one (i := 7) (d := 29) (oi := ?_) (v := ?_) ?_ (by kernel_rfl) (by kernel_rfl) (by kernel_rfl) (fun _ _ _ h => h) ?_ ?_ ?_ (by assumption) ?_
            case refine_3 => (simp only [List.getElem?_toArray, List.getElem?_cons_succ, List.getElem?_cons_zero]; rfl)
            case refine_4 => rfl
            case refine_5 => rfl
            case refine_6 => (intro w' hSw; (try dsimp only at hSw); go_simp; (try with_reducible rfl))
            simp only [Act.put, List.setIfInBounds_toArray, List.set_cons_zero, List.set_cons_succ]
            refine take_one (i := 8) (d := 30) (oi := ?_) (v := ?_) ?_ (by kernel_rfl) (by kernel_rfl) (by kernel_rfl) (fun _ _ _ h => h) ?_ ?_ ?_ (by assumption) ?_
            case refine_3 => (simp only [List.getElem?_toArray, List.getElem?_cons_succ, List.getElem?_cons_zero]; rfl)
            case refine_4 => rfl
            case refine_5 => rfl
            case refine_6 => (intro w' hSw; (try dsimp only at hSw); go_simp; (try with_reducible rfl))
            simp only [Act.put, List.setIfInBounds_toArray, List.set_cons_zero, List.set_cons_succ]
            refine wpAnyH_ready (rs := [11]) (by kernel_rfl) (by simp) ?_
            refine AllReadyH.cons (o := ?_) ?_ (fun K hK => ?_) AllReadyH.nil
            case refine_2 => (simp only [List.getElem?_toArray, List.getElem?_cons_succ, List.getElem?_cons_zero]; rfl)
            obtain ⟨z0, z1, z2, z3⟩ := HB5.out.four
            obtain ⟨y0, y1, y2, y3⟩ := HB6.out.four
            obtain ⟨fz0, fz1, fz2, fz3⟩ := HB5.out.melt
            obtain ⟨fy0, fy1, fy2, fy3⟩ := HB6.out.melt
            have ne1 := NE.out
            have ne2 := NE.out.symm
            go_simp
            refine hK.out _ _ (KP.out _ ((((HOZ.out.setCell (p := ⟨u0.heap.size, 0, none⟩) H5.out _).setCell (p := ⟨u0.heap.size, 1, none⟩) H5.out _).setCell (p := ⟨u0.heap.size, 2, none⟩) H5.out _).setCell (p := ⟨u0.heap.size, 3, none⟩) H5.out _)) (fun hHeld => ?_)
            clear hK K
            try simp only [Act.put, List.setIfInBounds_toArray, List.set_cons_zero, List.set_cons_succ]
            refine wpAnyH_ready (rs := [12]) (by kernel_rfl) (by simp) ?_
            refine AllReadyH.cons (o := ?_) ?_ (fun K hK => ?_) AllReadyH.nil
            case refine_2 => (simp only [List.getElem?_toArray, List.getElem?_cons_succ, List.getElem?_cons_zero]; rfl)
            go_simp
            refine hK.out _ _ (KP.out _ ((((((((HOZ.out.setCell (p := ⟨u0.heap.size, 0, none⟩) H5.out _).setCell (p := ⟨u0.heap.size, 1, none⟩) H5.out _).setCell (p := ⟨u0.heap.size, 2, none⟩) H5.out _).setCell (p := ⟨u0.heap.size, 3, none⟩) H5.out _).setCell (p := ⟨u11.heap.size, 0, none⟩) H6.out _).setCell (p := ⟨u11.heap.size, 1, none⟩) H6.out _).setCell (p := ⟨u11.heap.size, 2, none⟩) H6.out _).setCell (p := ⟨u11.heap.size, 3, none⟩) H6.out _)) (fun hHeld => ?_)
            clear hK K
            try simp only [Act.put, List.setIfInBounds_toArray, List.set_cons_zero, List.set_cons_succ]
            refine wpAnyH_done (by kernel_rfl) ?_ _
            try go_wp2_with (fail)
            go_meet
            exact ⟨_, _, rfl, rfl, halves_mk HMM.out HB5.out HB6.out NE.out HOZ.out HOV.out H5.out H6.out F5.out F6.out (fun k hk => .inl hk) HS1.out HS2.out HS3.out⟩
        case refine_9 =>
          go_simp
          refine hK.out _ _ (KP.out _ (HOZ.out.alloc (fun _ h => h) _)) (fun hHeld => ?_)
          clear hK K
          try simp only [Act.put, List.setIfInBounds_toArray, List.set_cons_zero, List.set_cons_succ]
          have HB6 : Hid (Blk (u0.alloc (.cells #[.slice none 0 0, .bool false, .slice none 0 0, .slice none 0 0] 41)) u0.heap.size 41 [.slice none 0 0, .bool false, .slice none 0 0, .slice none 0 0]) := Blk.new u0 41 [.slice none 0 0, .bool false, .slice none 0 0, .slice none 0 0]
          have H6 : Hid (w2.heap.size ≤ u0.heap.size) := HOZ.out.size
          replace HOZ : Hid (Only (w2.heap.size ≤ ·) w2 (u0.alloc (.cells #[.slice none 0 0, .bool false, .slice none 0 0, .slice none 0 0] 41))) := HOZ.out.alloc (fun _ h => h) _
          generalize u0.alloc (.cells #[.slice none 0 0, .bool false, .slice none 0 0, .slice none 0 0] 41) = u15 at HB6 HOZ ⊢
          refine wpAnyH_ready (rs := [4, 9]) (by kernel_rfl) (by simp) ?_
          refine AllReadyH.cons (o := ?_) ?_ (fun K hK => ?_) (AllReadyH.cons (o := ?_) ?_ (fun K hK => ?_) AllReadyH.nil)
          case refine_2 => (simp only [List.getElem?_toArray, List.getElem?_cons_succ, List.getElem?_cons_zero]; rfl)
          case refine_5 => (simp only [List.getElem?_toArray, List.getElem?_cons_succ, List.getElem?_cons_zero]; rfl)
          case refine_3 =>
            go_simp
            (go_at_call 33; (with_reducible refine (HMID.out _ HOZ.out).mono ?_); rintro e v3 ⟨kk, rfl, hmid, ho⟩; have HMM := Lib.hid hmid; (replace HB6 := Lib.hid (HB6.out.later ho)); (replace HOZ := Lib.hid (on_new HOZ.out ho)); clear ho hmid)
            go_wp2_with (fail)
            refine hK.out _ _ (KP.out _ HOZ.out) (fun hHeld => ?_)
            clear hK K
            try simp only [Act.put, List.setIfInBounds_toArray, List.set_cons_zero, List.set_cons_succ]
            refine wpAnyH_ready (rs := [5, 9]) (by kernel_rfl) (by simp) ?_
            refine AllReadyH.cons (o := ?_) ?_ (fun K hK => ?_) (AllReadyH.cons (o := ?_) ?_ (fun K hK => ?_) AllReadyH.nil)
            case refine_2 => (simp only [List.getElem?_toArray, List.getElem?_cons_succ, List.getElem?_cons_zero]; rfl)
            case refine_5 => (simp only [List.getElem?_toArray, List.getElem?_cons_succ, List.getElem?_cons_zero]; rfl)
            case refine_3 =>
              go_simp
              (go_at_call 32; (with_reducible refine (HCUT.out _ kk HOZ.out HMM.out).mono ?_); rintro e v4 ⟨A1, n1, c1, B1, m1, d1, P2, p2, A2, n2, c2, B2, m2, d2, rfl, s1, s2, s3, ho⟩; have HS1 := Lib.hid s1; have HS2 := Lib.hid s2; have HS3 := Lib.hid s3; have F6 : Hid ((fun k => Fz bp v k ∨ (w2.heap.size ≤ k ∧ k < v3.heap.size)) u0.heap.size ∨ v4.heap.size ≤ u0.heap.size) := .inl (.inr ⟨H6.out, HB6.out.lt⟩); (replace HB6 := Lib.hid (HB6.out.later ho)); (replace HOZ := Lib.hid (on_new HOZ.out ho)); have HOV : Hid (Only (v4.heap.size ≤ ·) v4 v4) := Only.refl _ _; clear ho s1 s2 s3)
              go_wp2_with (fail)
              refine hK.out _ _ (KP.out _ HOZ.out) (fun hHeld => ?_)
              clear hK K
              try simp only [Act.put, List.setIfInBounds_toArray, List.set_cons_zero, List.set_cons_succ]
              refine take_one (i := 6) (d := 22) (oi := ?_) (v := ?_) ?_ (by kernel_rfl) (by kernel_rfl) (by kernel_rfl) (fun _ _ _ h => h) ?_ ?_ ?_ (by assumption) ?_
              case refine_3 => (simp only [List.getElem?_toArray, List.getElem?_cons_succ, List.getElem?_cons_zero]; rfl)
              case refine_4 => rfl
              case refine_5 => rfl
              case refine_6 => (intro w' hSw; (try dsimp only at hSw); go_simp; (try with_reducible rfl))
              simp only [Act.put, List.setIfInBounds_toArray, List.set_cons_zero, List.set_cons_succ]
              refine take_one (i := 7) (d := 29) (oi := ?_) (v := ?_) ?_ (by kernel_rfl) (by kernel_rfl) (by kernel_rfl) (fun _ _ _ h => h) ?_ ?_ ?_ (by assumption) ?_
              case refine_3 => (simp only [List.getElem?_toArray, List.getElem?_cons_succ, List.getElem?_cons_zero]; rfl)
              case refine_4 => rfl
              case refine_5 => rfl
              case refine_6 => (intro w' hSw; (try dsimp only at hSw); go_simp; (try with_reducible rfl))
              simp only [Act.put, List.setIfInBounds_toArray, List.set_cons_zero, List.set_cons_succ]
              refine take_one (i := 8) (d := 30) (oi := ?_) (v := ?_) ?_ (by kernel_rfl) (by kernel_rfl) (by kernel_rfl) (fun _ _ _ h => h) ?_ ?_ ?_ (by assumption) ?_
              case refine_3 => (simp only [List.getElem?_toArray, List.getElem?_cons_succ, List.getElem?_cons_zero]; rfl)
              case refine_4 => rfl
              case refine_5 => rfl
              case refine_6 => (intro w' hSw; (try dsimp only at hSw); go_simp; (try with_reducible rfl))
              simp only [Act.put, List.setIfInBounds_toArray, List.set_cons_zero, List.set_cons_succ]
              refine wpAnyH_ready (rs := [9]) (by kernel_rfl) (by simp) ?_
              refine AllReadyH.cons (o := ?_) ?_ (fun K hK => ?_) AllReadyH.nil
              case refine_2 => (simp only [List.getElem?_toArray, List.getElem?_cons_succ, List.getElem?_cons_zero]; rfl)
              go_simp
              refine hK.out _ _ (KP.out _ (HOZ.out.alloc (fun _ h => h) _)) (fun hHeld => ?_)
              clear hK K
              try simp only [Act.put, List.setIfInBounds_toArray, List.set_cons_zero, List.set_cons_succ]
              have HB5 : Hid (Blk (v4.alloc (.cells #[.slice none 0 0, .bool false, .slice none 0 0, .slice none 0 0] 41)) v4.heap.size 41 [.slice none 0 0, .bool false, .slice none 0 0, .slice none 0 0]) := Blk.new v4 41 [.slice none 0 0, .bool false, .slice none 0 0, .slice none 0 0]
              have H5 : Hid (w2.heap.size ≤ v4.heap.size) := HOZ.out.size
              have NE := Lib.hid (show v4.heap.size ≠ u0.heap.size from by have := HB6.out.lt; omega)
              replace HB6 : Hid (Blk (v4.alloc (.cells #[.slice none 0 0, .bool false, .slice none 0 0, .slice none 0 0] 41)) u0.heap.size 41 [.slice none 0 0, .bool false, .slice none 0 0, .slice none 0 0]) := HB6.out.alloc _
              have F5 : Hid ((fun k => Fz bp v k ∨ (w2.heap.size ≤ k ∧ k < v3.heap.size)) v4.heap.size ∨ v4.heap.size ≤ v4.heap.size) := .inr HOV.out.size
              replace HOV : Hid (Only (v4.heap.size ≤ ·) v4 (v4.alloc (.cells #[.slice none 0 0, .bool false, .slice none 0 0, .slice none 0 0] 41))) := HOV.out.alloc (fun _ h => h) _
              replace HOZ : Hid (Only (w2.heap.size ≤ ·) w2 (v4.alloc (.cells #[.slice none 0 0, .bool false, .slice none 0 0, .slice none 0 0] 41))) := HOZ.out.alloc (fun _ h => h) _
              generalize v4.alloc (.cells #[.slice none 0 0, .bool false, .slice none 0 0, .slice none 0 0] 41) = u16 at HB5 HB6 HOV HOZ ⊢
              refine wpAnyH_ready (rs := [11]) (by kernel_rfl) (by simp) ?_
              refine AllReadyH.cons (o := ?_) ?_ (fun K hK => ?_) AllReadyH.nil
              case refine_2 => (simp only [List.getElem?_toArray, List.getElem?_cons_succ, List.getElem?_cons_zero]; rfl)
              obtain ⟨z0, z1, z2, z3⟩ := HB5.out.four
              obtain ⟨y0, y1, y2, y3⟩ := HB6.out.four
              obtain ⟨fz0, fz1, fz2, fz3⟩ := HB5.out.melt
              obtain ⟨fy0, fy1, fy2, fy3⟩ := HB6.out.melt
              have ne1 := NE.out
              have ne2 := NE.out.symm
              go_simp
              refine hK.out _ _ (KP.out _ ((((HOZ.out.setCell (p := ⟨v4.heap.size, 0, none⟩) H5.out _).setCell (p := ⟨v4.heap.size, 1, none⟩) H5.out _).setCell (p := ⟨v4.heap.size, 2, none⟩) H5.out _).setCell (p := ⟨v4.heap.size, 3, none⟩) H5.out _)) (fun hHeld => ?_)
              clear hK K
              try simp only [Act.put, List.setIfInBounds_toArray, List.set_cons_zero, List.set_cons_succ]
              refine wpAnyH_ready (rs := [12]) (by kernel_rfl) (by simp) ?_
              refine AllReadyH.cons (o := ?_) ?_ (fun K hK => ?_) AllReadyH.nil
              case refine_2 => (simp only [List.getElem?_toArray, List.getElem?_cons_succ, List.getElem?_cons_zero]; rfl)
              go_simp
              refine hK.out _ _ (KP.out _ ((((((((HOZ.out.setCell (p := ⟨v4.heap.size, 0, none⟩) H5.out _).setCell (p := ⟨v4.heap.size, 1, none⟩) H5.out _).setCell (p := ⟨v4.heap.size, 2, none⟩) H5.out _).setCell (p := ⟨v4.heap.size, 3, none⟩) H5.out _).setCell (p := ⟨u0.heap.size, 0, none⟩) H6.out _).setCell (p := ⟨u0.heap.size, 1, none⟩) H6.out _).setCell (p := ⟨u0.heap.size, 2, none⟩) H6.out _).setCell (p := ⟨u0.heap.size, 3, none⟩) H6.out _)) (fun hHeld => ?_)
              clear hK K
              try simp only [Act.put, List.setIfInBounds_toArray, List.set_cons_zero, List.set_cons_succ]
              refine wpAnyH_done (by kernel_rfl) ?_ _
              try go_wp2_with (fail)
              go_meet
              exact ⟨_, _, rfl, rfl, halves_mk HMM.out HB5.out HB6.out NE.out HOZ.out HOV.out H5.out H6.out F5.out F6.out (fun k hk => .inl hk) HS1.out HS2.out HS3.out⟩
            case refine_6 =>
              go_simp
              refine hK.out _ _ (KP.out _ (HOZ.out.alloc (fun _ h => h) _)) (fun hHeld => ?_)
              clear hK K
              try simp only [Act.put, List.setIfInBounds_toArray, List.set_cons_zero, List.set_cons_succ]
              have HB5 : Hid (Blk (v3.alloc (.cells #[.slice none 0 0, .bool false, .slice none 0 0, .slice none 0 0] 41)) v3.heap.size 41 [.slice none 0 0, .bool false, .slice none 0 0, .slice none 0 0]) := Blk.new v3 41 [.slice none 0 0, .bool false, .slice none 0 0, .slice none 0 0]
              have H5 : Hid (w2.heap.size ≤ v3.heap.size) := HOZ.out.size
              have NE := Lib.hid (show v3.heap.size ≠ u0.heap.size from by have := HB6.out.lt; omega)
              replace HB6 : Hid (Blk (v3.alloc (.cells #[.slice none 0 0, .bool false, .slice none 0 0, .slice none 0 0] 41)) u0.heap.size 41 [.slice none 0 0, .bool false, .slice none 0 0, .slice none 0 0]) := HB6.out.alloc _
              replace HOZ : Hid (Only (w2.heap.size ≤ ·) w2 (v3.alloc (.cells #[.slice none 0 0, .bool false, .slice none 0 0, .slice none 0 0] 41))) := HOZ.out.alloc (fun _ h => h) _
              generalize v3.alloc (.cells #[.slice none 0 0, .bool false, .slice none 0 0, .slice none 0 0] 41) = u17 at HB5 HB6 HOZ ⊢
              refine wpAnyH_ready (rs := [5]) (by kernel_rfl) (by simp) ?_
              refine AllReadyH.cons (o := ?_) ?_ (fun K hK => ?_) AllReadyH.nil
              case refine_2 => (simp only [List.getElem?_toArray, List.getElem?_cons_succ, List.getElem?_cons_zero]; rfl)
              go_simp
              (go_at_call 32; (with_reducible refine (HCUT.out _ kk HOZ.out HMM.out).mono ?_); rintro e v4 ⟨A1, n1, c1, B1, m1, d1, P2, p2, A2, n2, c2, B2, m2, d2, rfl, s1, s2, s3, ho⟩; have HS1 := Lib.hid s1; have HS2 := Lib.hid s2; have HS3 := Lib.hid s3; have F5 : Hid ((fun k => Fz bp v k ∨ (w2.heap.size ≤ k ∧ k < u17.heap.size)) v3.heap.size ∨ v4.heap.size ≤ v3.heap.size) := .inl (.inr ⟨H5.out, HB5.out.lt⟩); have F6 : Hid ((fun k => Fz bp v k ∨ (w2.heap.size ≤ k ∧ k < u17.heap.size)) u0.heap.size ∨ v4.heap.size ≤ u0.heap.size) := .inl (.inr ⟨H6.out, HB6.out.lt⟩); (replace HB5 := Lib.hid (HB5.out.later ho)); (replace HB6 := Lib.hid (HB6.out.later ho)); (replace HOZ := Lib.hid (on_new HOZ.out ho)); have HOV : Hid (Only (v4.heap.size ≤ ·) v4 v4) := Only.refl _ _; clear ho s1 s2 s3)
              go_wp2_with (fail)
              refine hK.out _ _ (KP.out _ HOZ.out) (fun hHeld => ?_)
              clear hK K
              try simp only [Act.put, List.setIfInBounds_toArray, List.set_cons_zero, List.set_cons_succ]
              refine take_one (i := 6) (d := 22) (oi := ?_) (v := ?_) ?_ (by kernel_rfl) (by kernel_rfl) (by kernel_rfl) (fun _ _ _ h => h) ?_ ?_ ?_ (by assumption) ?_
              case refine_3 => (simp only [List.getElem?_toArray, List.getElem?_cons_succ, List.getElem?_cons_zero]; rfl)
              case refine_4 => rfl
              case refine_5 => rfl
              case refine_6 => (intro w' hSw; (try dsimp only at hSw); go_simp; (try with_reducible rfl))
              simp only [Act.put, List.setIfInBounds_toArray, List.set_cons_zero, List.set_cons_succ]
              refine take_one (i := 7) (d := 29) (oi := ?_) (v := ?_) ?_ (by kernel_rfl) (by kernel_rfl) (by kernel_rfl) (fun _ _ _ h => h) ?_ ?_ ?_ (by assumption) ?_
              case refine_3 => (simp only [List.getElem?_toArray, List.getElem?_cons_succ, List.getElem?_cons_zero]; rfl)
              case refine_4 => rfl
              case refine_5 => rfl
              case refine_6 => (intro w' hSw; (try dsimp only at hSw); go_simp; (try with_reducible rfl))
              simp only [Act.put, List.setIfInBounds_toArray, List.set_cons_zero, List.set_cons_succ]
              refine take_one (i := 8) (d := 30) (oi := ?_) (v := ?_) ?_ (by kernel_rfl) (by kernel_rfl) (by kernel_rfl) (fun _ _ _ h => h) ?_ ?_ ?_ (by assumption) ?_
              case refine_3 => (simp only [List.getElem?_toArray, List.getElem?_cons_succ, List.getElem?_cons_zero]; rfl)
              case refine_4 => rfl
              case refine_5 => rfl
              case refine_6 => (intro w' hSw; (try dsimp only at hSw); go_simp; (try with_reducible rfl))
              simp only [Act.put, List.setIfInBounds_toArray, List.set_cons_zero, List.set_cons_succ]
              refine wpAnyH_ready (rs := [11]) (by kernel_rfl) (by simp) ?_
              refine AllReadyH.cons (o := ?_) ?_ (fun K hK => ?_) AllReadyH.nil
              case refine_2 => (simp only [List.getElem?_toArray, List.getElem?_cons_succ, List.getElem?_cons_zero]; rfl)
              obtain ⟨z0, z1, z2, z3⟩ := HB5.out.four
              obtain ⟨y0, y1, y2, y3⟩ := HB6.out.four
              obtain ⟨fz0, fz1, fz2, fz3⟩ := HB5.out.melt
              obtain ⟨fy0, fy1, fy2, fy3⟩ := HB6.out.melt
              have ne1 := NE.out
              have ne2 := NE.out.symm
              go_simp
              refine hK.out _ _ (KP.out _ ((((HOZ.out.setCell (p := ⟨v3.heap.size, 0, none⟩) H5.out _).setCell (p := ⟨v3.heap.size, 1, none⟩) H5.out _).setCell (p := ⟨v3.heap.size, 2, none⟩) H5.out _).setCell (p := ⟨v3.heap.size, 3, none⟩) H5.out _)) (fun hHeld => ?_)
              clear hK K
              try simp only [Act.put, List.setIfInBounds_toArray, List.set_cons_zero, List.set_cons_succ]
              refine wpAnyH_ready (rs := [12]) (by kernel_rfl) (by simp) ?_
              refine AllReadyH.cons (o := ?_) ?_ (fun K hK => ?_) AllReadyH.nil
              case refine_2 => (simp only [List.getElem?_toArray, List.getElem?_cons_succ, List.getElem?_cons_zero]; rfl)
              go_simp
              refine hK.out _ _ (KP.out _ ((((((((HOZ.out.setCell (p := ⟨v3.heap.size, 0, none⟩) H5.out _).setCell (p := ⟨v3.heap.size, 1, none⟩) H5.out _).setCell (p := ⟨v3.heap.size, 2, none⟩) H5.out _).setCell (p := ⟨v3.heap.size, 3, none⟩) H5.out _).setCell (p := ⟨u0.heap.size, 0, none⟩) H6.out _).setCell (p := ⟨u0.heap.size, 1, none⟩) H6.out _).setCell (p := ⟨u0.heap.size, 2, none⟩) H6.out _).setCell (p := ⟨u0.heap.size, 3, none⟩) H6.out _)) (fun hHeld => ?_)
              clear hK K
              try simp only [Act.put, List.setIfInBounds_toArray, List.set_cons_zero, List.set_cons_succ]
              refine wpAnyH_done (by kernel_rfl) ?_ _
              try go_wp2_with (fail)
              go_meet
              exact ⟨_, _, rfl, rfl, halves_mk HMM.out HB5.out HB6.out NE.out HOZ.out HOV.out H5.out H6.out F5.out F6.out (fun k hk => .inl hk) HS1.out HS2.out HS3.out⟩
          case refine_6 =>
            go_simp
            refine hK.out _ _ (KP.out _ (HOZ.out.alloc (fun _ h => h) _)) (fun hHeld => ?_)
            clear hK K
            try simp only [Act.put, List.setIfInBounds_toArray, List.set_cons_zero, List.set_cons_succ]
            have HB5 : Hid (Blk (u15.alloc (.cells #[.slice none 0 0, .bool false, .slice none 0 0, .slice none 0 0] 41)) u15.heap.size 41 [.slice none 0 0, .bool false, .slice none 0 0, .slice none 0 0]) := Blk.new u15 41 [.slice none 0 0, .bool false, .slice none 0 0, .slice none 0 0]
            have H5 : Hid (w2.heap.size ≤ u15.heap.size) := HOZ.out.size
            have NE := Lib.hid (show u15.heap.size ≠ u0.heap.size from by have := HB6.out.lt; omega)
            replace HB6 : Hid (Blk (u15.alloc (.cells #[.slice none 0 0, .bool false, .slice none 0 0, .slice none 0 0] 41)) u0.heap.size 41 [.slice none 0 0, .bool false, .slice none 0 0, .slice none 0 0]) := HB6.out.alloc _
            replace HOZ : Hid (Only (w2.heap.size ≤ ·) w2 (u15.alloc (.cells #[.slice none 0 0, .bool false, .slice none 0 0, .slice none 0 0] 41))) := HOZ.out.alloc (fun _ h => h) _
            generalize u15.alloc (.cells #[.slice none 0 0, .bool false, .slice none 0 0, .slice none 0 0] 41) = u18 at HB5 HB6 HOZ ⊢
            refine wpAnyH_ready (rs := [4]) (by kernel_rfl) (by simp) ?_
            refine AllReadyH.cons (o := ?_) ?_ (fun K hK => ?_) AllReadyH.nil
            case refine_2 => (simp only [List.getElem?_toArray, List.getElem?_cons_succ, List.getElem?_cons_zero]; rfl)
            go_simp
            (go_at_call 33; (with_reducible refine (HMID.out _ HOZ.out).mono ?_); rintro e v3 ⟨kk, rfl, hmid, ho⟩; have HMM := Lib.hid hmid; (replace HB5 := Lib.hid (HB5.out.later ho)); (replace HB6 := Lib.hid (HB6.out.later ho)); (replace HOZ := Lib.hid (on_new HOZ.out ho)); clear ho hmid)
            go_wp2_with (fail)
            refine hK.out _ _ (KP.out _ HOZ.out) (fun hHeld => ?_)
            clear hK K
            try simp only [Act.put, List.setIfInBounds_toArray, List.set_cons_zero, List.set_cons_succ]
            refine wpAnyH_ready (rs := [5]) (by kernel_rfl) (by simp) ?_
            refine AllReadyH.cons (o := ?_) ?_ (fun K hK => ?_) AllReadyH.nil
            case refine_2 => (simp only [List.getElem?_toArray, List.getElem?_cons_succ, List.getElem?_cons_zero]; rfl)
            go_simp
            (go_at_call 32; (with_reducible refine (HCUT.out _ kk HOZ.out HMM.out).mono ?_); rintro e v4 ⟨A1, n1, c1, B1, m1, d1, P2, p2, A2, n2, c2, B2, m2, d2, rfl, s1, s2, s3, ho⟩; have HS1 := Lib.hid s1; have HS2 := Lib.hid s2; have HS3 := Lib.hid s3; have F5 : Hid ((fun k => Fz bp v k ∨ (w2.heap.size ≤ k ∧ k < v3.heap.size)) u15.heap.size ∨ v4.heap.size ≤ u15.heap.size) := .inl (.inr ⟨H5.out, HB5.out.lt⟩); have F6 : Hid ((fun k => Fz bp v k ∨ (w2.heap.size ≤ k ∧ k < v3.heap.size)) u0.heap.size ∨ v4.heap.size ≤ u0.heap.size) := .inl (.inr ⟨H6.out, HB6.out.lt⟩); (replace HB5 := Lib.hid (HB5.out.later ho)); (replace HB6 := Lib.hid (HB6.out.later ho)); (replace HOZ := Lib.hid (on_new HOZ.out ho)); have HOV : Hid (Only (v4.heap.size ≤ ·) v4 v4) := Only.refl _ _; clear ho s1 s2 s3)
            go_wp2_with (fail)
            refine hK.out _ _ (KP.out _ HOZ.out) (fun hHeld => ?_)
            clear hK K
            try simp only [Act.put, List.setIfInBounds_toArray, List.set_cons_zero, List.set_cons_succ]
            refine take_one (i := 6) (d := 22) (oi := ?_) (v := ?_) ?_ (by kernel_rfl) (by kernel_rfl) (by kernel_rfl) (fun _ _ _ h => h) ?_ ?_ ?_ (by assumption) ?_
            case refine_3 => (simp only [List.getElem?_toArray, List.getElem?_cons_succ, List.getElem?_cons_zero]; rfl)
            case refine_4 => rfl
            case refine_5 => rfl
            case refine_6 => (intro w' hSw; (try dsimp only at hSw); go_simp; (try with_reducible rfl))
            simp only [Act.put, List.setIfInBounds_toArray, List.set_cons_zero, List.set_cons_succ]
            refine take_one (i := 7) (d := 29) (oi := ?_) (v := ?_) ?_ (by kernel_rfl) (by kernel_rfl) (by kernel_rfl) (fun _ _ _ h => h) ?_ ?_ ?_ (by assumption) ?_
            case refine_3 => (simp only [List.getElem?_toArray, List.getElem?_cons_succ, List.getElem?_cons_zero]; rfl)
            case refine_4 => rfl
            case refine_5 => rfl
            case refine_6 => (intro w' hSw; (try dsimp only at hSw); go_simp; (try with_reducible rfl))
            simp only [Act.put, List.setIfInBounds_toArray, List.set_cons_zero, List.set_cons_succ]
            refine take_one (i := 8) (d := 30) (oi := ?_) (v := ?_) ?_ (by kernel_rfl) (by kernel_rfl) (by kernel_rfl) (fun _ _ _ h => h) ?_ ?_ ?_ (by assumption) ?_
            case refine_3 => (simp only [List.getElem?_toArray, List.getElem?_cons_succ, List.getElem?_cons_zero]; rfl)
            case refine_4 => rfl
            case refine_5 => rfl
            case refine_6 => (intro w' hSw; (try dsimp only at hSw); go_simp; (try with_reducible rfl))
            simp only [Act.put, List.setIfInBounds_toArray, List.set_cons_zero, List.set_cons_succ]
            refine wpAnyH_ready (rs := [11]) (by kernel_rfl) (by simp) ?_
            refine AllReadyH.cons (o := ?_) ?_ (fun K hK => ?_) AllReadyH.nil
            case refine_2 => (simp only [List.getElem?_toArray, List.getElem?_cons_succ, List.getElem?_cons_zero]; rfl)
            obtain ⟨z0, z1, z2, z3⟩ := HB5.out.four
            obtain ⟨y0, y1, y2, y3⟩ := HB6.out.four
            obtain ⟨fz0, fz1, fz2, fz3⟩ := HB5.out.melt
            obtain ⟨fy0, fy1, fy2, fy3⟩ := HB6.out.melt
            have ne1 := NE.out
            have ne2 := NE.out.symm
            go_simp
            refine hK.out _ _ (KP.out _ ((((HOZ.out.setCell (p := ⟨u15.heap.size, 0, none⟩) H5.out _).setCell (p := ⟨u15.heap.size, 1, none⟩) H5.out _).setCell (p := ⟨u15.heap.size, 2, none⟩) H5.out _).setCell (p := ⟨u15.heap.size, 3, none⟩) H5.out _)) (fun hHeld => ?_)
            clear hK K
            try simp only [Act.put, List.setIfInBounds_toArray, List.set_cons_zero, List.set_cons_succ]
            refine wpAnyH_ready (rs := [12]) (by kernel_rfl) (by simp) ?_
            refine AllReadyH.cons (o := ?_) ?_ (fun K hK => ?_) AllReadyH.nil
            case refine_2 => (simp only [List.getElem?_toArray, List.getElem?_cons_succ, List.getElem?_cons_zero]; rfl)
            go_simp
            refine hK.out _ _ (KP.out _ ((((((((HOZ.out.setCell (p := ⟨u15.heap.size, 0, none⟩) H5.out _).setCell (p := ⟨u15.heap.size, 1, none⟩) H5.out _).setCell (p := ⟨u15.heap.size, 2, none⟩) H5.out _).setCell (p := ⟨u15.heap.size, 3, none⟩) H5.out _).setCell (p := ⟨u0.heap.size, 0, none⟩) H6.out _).setCell (p := ⟨u0.heap.size, 1, none⟩) H6.out _).setCell (p := ⟨u0.heap.size, 2, none⟩) H6.out _).setCell (p := ⟨u0.heap.size, 3, none⟩) H6.out _)) (fun hHeld => ?_)
            clear hK K
            try simp only [Act.put, List.setIfInBounds_toArray, List.set_cons_zero, List.set_cons_succ]
            refine wpAnyH_done (by kernel_rfl) ?_ _
            try go_wp2_with (fail)
            go_meet
            exact ⟨_, _, rfl, rfl, halves_mk HMM.out HB5.out HB6.out NE.out HOZ.out HOV.out H5.out H6.out F5.out F6.out (fun k hk => .inl hk) HS1.out HS2.out HS3.out⟩
      case rest =>
        obtain ⟨b5, b6, rfl, rfl, kk, A1, n1, c1, B1, m1, d1, P2, p2, A2, n2, c2, B2, m2, d2, hmid, hB5, hB6, s1, s2, s3, hOc, g5, g6⟩ := hcut
        obtain ⟨hbp, hown, hk, hden, hnod, hkey⟩ := HX.out
        have hq := HQ.out
        have hsx := HS.out
        have hlt := hmid.2.1
        rw [rms_length] at hlt
        have hk1 := hmid.1
        have hmx : 2 ≤ many x := by have := HM.out; omega
        have hon := World.ownsRow.lt hown
        have hOw : Only (w.heap.size ≤ ·) w wc := on_new HO.out hOc
        have hwz := HO.out.size
        have hcz := hOc.size
        have HC1 : Hid (Calls Tryd.prog 30 #[.agg #[.slice P q p, .bool x.leaf, .slice A1 n1 c1, .slice B1 m1 d1], .pointer (some ⟨bg, 0, none⟩), .pointer (some ⟨bp, 0, none⟩), .pointer (some ⟨ba, 0, none⟩)] wc (Added wc bp B0 v L g ks (fstN kk x))) :=
          ih (many (fstN kk x)) (by rw [many_fst (by omega)]; omega) wc (fstN kk x) x.leaf P A1 B1 q p n1 c1 m1 d1 k ks v L C (Nat.le_refl _) (hsx.halves kk).1 (HG.out.later hOc) (by omega) (HBG.out.later hOc) (HBP.out.later hOc) (HBA.out.later hOc) (own_later HOWN.out hOc) hk (by rw [many_fst (by omega)]; omega)
            (hden.step (hOw.mono fun _ h => .inr h) fun k hk => .inl hk) s1 hq (hkey.step (hOw.mono fun _ h => .inr h) fun k hk => .inl hk)
        have HSTEP : Hid (∀ (e : Ending) (wd : World), Added wc bp B0 v L g ks (fstN kk x) e wd → e = .returned (.tuple #[]) ∧ wd.cell? ⟨b6, 0, none⟩ = some (.slice P2 (keyN kk x).length p2) ∧ wd.cell? ⟨b6, 1, none⟩ = some (.bool x.leaf) ∧ wd.cell? ⟨b6, 2, none⟩ = some (.slice A2 n2 c2) ∧ wd.cell? ⟨b6, 3, none⟩ = some (.slice B2 m2 d2) ∧ wd.cell? ⟨ba, 0, none⟩ = some (.func (.func 30) #[] #[.pointer (some ⟨bg, 0, none⟩), .pointer (some ⟨bp, 0, none⟩), .pointer (some ⟨ba, 0, none⟩)]) ∧
            Calls Tryd.prog 30 #[.agg #[.slice P2 (keyN kk x).length p2, .bool x.leaf, .slice A2 n2 c2, .slice B2 m2 d2], .pointer (some ⟨bg, 0, none⟩), .pointer (some ⟨bp, 0, none⟩), .pointer (some ⟨ba, 0, none⟩)] wd (Added w bp B0 v L g ks x)) := by
          rintro e wd ⟨he, l1, v1, C1, hc1, hbp1, hown1, hden1, hO1, hat1⟩
          have hb6l := hB6.lt
          have hB6' : Blk wd b6 41 [.slice P2 (keyN kk x).length p2, .bool x.leaf, .slice A2 n2 c2, .slice B2 m2 d2] := hB6.only hO1 fun hk => by
            rcases hk with (hk | hk) | hk
            · omega
            · have := (hon b6 hk).2; omega
            · omega
          have hba' : Blk wd ba 69 [.func (.func 30) #[] #[.pointer (some ⟨bg, 0, none⟩), .pointer (some ⟨bp, 0, none⟩), .pointer (some ⟨ba, 0, none⟩)]] := (HBA.out.later hOc).only hO1 fun hk => by
            rcases hk with (hk | hk) | hk
            · exact hap hk
            · have := (hon ba hk).1; omega
            · omega
          have hbg' : Blk wd bg 3 [.int .i64 g] := (HBG.out.later hOc).only hO1 fun hk => by
            rcases hk with (hk | hk) | hk
            · exact hgp hk
            · have := (hon bg hk).1; omega
            · omega
          have hg' : Gens wd := (HG.out.later hOc).on hO1 fun hk => by
            rcases hk with (hk | hk) | hk
            · omega
            · have := (hon 0 hk).1; omega
            · omega
          have hFz : ∀ k, Fz bp v1 k → Fz bp v k ∨ wc.heap.size ≤ k := fun k hk => by
            rcases hk with hk | hk
            · exact .inl (.inl hk)
            · exact (hat1 k hk).elim (fun h => .inl (.inr h)) .inr
          have hl1 := hc1.most
          rw [many_fst (by omega)] at hl1
          have h4 := hB6'.four
          refine ⟨he, h4.1, h4.2.1, h4.2.2.1, h4.2.2.2, hba'.at0, ?_⟩
          have hsz := hO1.size
          refine (ih (many (sndN kk x)) (by rw [many_snd]; omega) wd (sndN kk x) x.leaf P2 A2 B2 _ p2 n2 c2 m2 d2 (L ++ l1).length (keyN kk x) v1 (L ++ l1) C1 (Nat.le_refl _) (hsx.halves kk).2 hg' (by omega) hbg' hbp1 hba' hown1 rfl (by rw [many_snd, List.length_append]; omega)
            hden1 (s3.step hO1 hFz) rfl (s2.step hO1 hFz)).mono fun e' w3 h3 => ?_
          exact added_two hOw HNF.out hmx hmid hc1 hO1 hat1 h3
        obtain ⟨e0, e1, e2, e3⟩ := hB5.four
        have ec := (HBA.out.later hOc).at0
        have hp0 : True := trivial
        clear hmid hB5 hB6 s1 s2 s3 hOc hbp hown hk hden hnod hkey hq hsx hlt hmx hon hOw hmi
        go_wp2_with (first
          | (go_at_call 30; (with_reducible refine HC1.out.mono ?_); rintro e wd had; (obtain ⟨rfl, r0, r1, r2, r3, rca, hcall⟩ := HSTEP.out _ _ had); have HC2 := Lib.hid hcall; clear had hcall)
          | (go_at_call 30; (with_reducible refine HC2.out.mono ?_); rintro e we ⟨rfl, hfin⟩; have HFIN := Lib.hid hfin; clear hfin))
        go_end0
        exact ⟨rfl, HFIN.out⟩
  · go_enter Tryd.func30, Tryd.ntmps30
    go_wp2_with (first
      | (go_at_call 14; (with_reducible refine (HF.out _ HO.out).mono ?_); rintro e w1 ⟨rfl, ho⟩; (replace HB1 := Lib.hid (HB1.out.later ho)); (replace HBG := Lib.hid (HBG.out.later ho)); (replace HBP := Lib.hid (HBP.out.later ho)); (replace HBA := Lib.hid (HBA.out.later ho)); (replace HG := Lib.hid (HG.out.later ho)); (replace HOWN := Lib.hid (own_later HOWN.out ho)); (replace HO := Lib.hid (on_new HO.out ho)); (obtain ⟨a0, a1, a2, a3⟩ := HB1.out.four); have cg := HBG.out.at0; have cp := HBP.out.at0; have fp := HBP.out.frozen 0; have ca := HBA.out.at0; clear ho)
      | (at_builtin; refine wpList_append_own_at _ rfl (.tmp 18) (.tmp 20) 36 rfl B0 41 i0 zP 4 80 Tryd.underlying36 HI.out.1 HI.out.2.1 HI.out.2.2.1 HI.out.2.2.2 (by rfl) (by omega) v k C rfl (HOWN.out.alloc _) ⟨w1.heap.size, 0, none⟩ 1 1 [.slice P q p, .bool f, .slice A n c, .slice B m d] rfl rfl (fun j u hu => by rw [Addr.add_lit, (Blk.new w1 41 [.slice P q p, .bool f, .slice A n c, .slice B m d]).cell, Nat.zero_add]; exact hu) (by simp [Value.oneCell']) (by simp only [maxLen]; omega) (by omega) (by have := HO.out.size; simp; omega) ?_; intro v' w' ho' hg' _ hat'; (obtain ⟨A2, c2, rfl, _⟩ := raw_of_own ho'); have HBP2 := Lib.hid (HBPW.out _ _ (hg'.block bp) (HBP.out.alloc _)); have cp' := HBP2.out.at0; have fp' := HBP2.out.frozen 0; have HW := Lib.hid (And.intro ho' (And.intro hg' hat')); clear ho' hg' hat'))
    obtain ⟨hbp, hown, hk, hden, hnod, hkey⟩ := HX.out
    obtain ⟨ho2, hg2, hat2⟩ := HW.out
    obtain rfl := HQ.out
    go_end0
    exact added_one (HO.out.alloc (fun _ h => h) _) hbp hb2 hB hown hk hden hnod hkey hg2 ho2 hat2 (.inl HNF.out)
end Go.Proofs.YtjbbljnfgpggkaaDoor
