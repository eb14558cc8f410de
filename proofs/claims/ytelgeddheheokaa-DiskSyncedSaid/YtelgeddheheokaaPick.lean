/-
  DiskPicks: its walk, over an image, a script and bools in memory.
-/
import Derived.Test.YtelgeddheheokaaKeep
import Derived.Deep.RegionLaw
set_option linter.unusedVariables false
namespace Go.Proofs.Ytelgeddheheokaa
open Go.RowKit

theorem kept_prefix (kl : List Bool) (r s : List Wr) : ∀ k, k ≤ r.length → kept kl (r ++ s) k = kept kl r k := by
  intro k
  induction k with
  | zero => intro _; simp [kept]
  | succ k ih =>
    intro hk
    rw [kept_succ _ _ _ (by rw [List.length_append]; omega), kept_succ _ _ _ (by omega), ih (by omega), List.getElem_append_left]
theorem chunks_at (a : Nat) (xs : Bytes) (m j : Nat) (h : j < (chunks a xs m).length) : (chunks a xs m)[j] = (a + j, (xs.drop (j * 64)).take 64) := by simp [chunks]
theorem kept_next (kl : List Bool) (r : List Wr) (a : Nat) (xs : Bytes) (m j : Nat) (hj : j < m) :
    kept kl (r ++ chunks a xs m) (r.length + j + 1) = kept kl (r ++ chunks a xs m) (r.length + j) ++ if keepAt kl (r.length + j) = true then [(a + j, (xs.drop (j * 64)).take 64)] else [] := by
  rw [kept_succ _ _ _ (by rw [List.length_append, chunks_length]; omega), List.getElem_append_right (by omega)]
  simp [chunks_at]

/-- A Write on a disk that isn't armed: it is done, or it is refused and nothing is done. -/
theorem write_cases {d : Dsk} (hd : d.down = false) (ha : d.armed = false) (at_ : Int) (xs : Bytes) :
    (d.write at_ xs = ({ d with row := d.row ++ chunks at_.toNat xs (xs.length / 64), ops := d.ops + 1 }, 0) ∧ 0 ≤ at_ ∧ at_.toNat + xs.length / 64 ≤ d.n ∧ xs.length % 64 = 0 ∧ 0 < xs.length) ∨
      ((d.write at_ xs).1 = d ∧ ((d.write at_ xs).2 == 0) = false) := by
  unfold Dsk.write
  rw [if_neg (by rw [hd]; decide)]
  split
  · exact .inr ⟨rfl, rfl⟩
  · rename_i h
    split
    · exact .inr ⟨rfl, rfl⟩
    · rename_i hh
      have hh' : d.has at_ (xs.length / 64 : Nat) = true := by simpa using hh
      have hr : 0 ≤ at_ ∧ ((xs.length / 64 : Nat) : Int) ≤ d.n - at_ := by
        unfold Dsk.has at hh'
        simp at hh'
        omega
      refine .inl ⟨by simp [Dsk.op, ha], hr.1, by omega, by omega, by omega⟩

/-- A copy into a block that is known whole, as one step of a region that draws: all other blocks stay. -/
theorem step_copy_only {P : Program} {ops : Array Oper} {o : Oper} {a : Act} {w : World} {K : Act → World → Prop} {Q : Exit → Act → World → Prop} {E : Prop} (hgd : o.guard = none) (d s : Operand) (dT sT : TypeId)
    (ho : o.op = .call { callee := .builtin .copy, args := #[d, s], argTypes := #[dT, sT] }) (elem : TypeId) (hu : P.underlying dT = some (.slice elem)) (hsz : (P.info? elem).map (·.size) = some 1)
    (ad : Addr) (dLen dCap sLen sCap g off : Nat) (hd : a.eval d = .slice (some ⟨g, off, none⟩) dLen dCap) (hs : a.eval s = .slice (some ad) sLen sCap)
    (cur : List Value) (t : TypeId) (hg : w.heap[g]? = some (.cells cur.toArray t (0, 0))) (cs : List Value) (hn : cs.length = Nat.min sLen dLen)
    (hsrc : ∀ j v, cs[j]? = some v → w.cell? (ad.add j) = some v) (hfit : off + cs.length ≤ cur.length) (h1 : ∀ v ∈ cs, v.oneCell' = true)
    (h : ∀ w', Hid (Blk w' g t (over cur off cs)) → Only (· = g) w w' → K (a.put o.dst (goInt cs.length)) w') :
    if Region.wanted o (yielded ops a.tmps) = true then Oper.wp P o a w K Q else E := by
  have hw : Region.wanted o (yielded ops a.tmps) = true := by simp [Region.wanted, hgd]
  rw [if_pos hw]
  have hrun := run_copy_row (P := P) w dT sT o.type elem g off dLen dCap ad sLen sCap cur.toArray t cs hu hsz hg hn hsrc (by simpa using hfit) h1
  unfold Oper.wp
  simp [execOp, ho, resolve, invoke, builtin, hd, hs, hrun, Result.andThen]
  refine h _ ?_ (Only.setRow (F := fun x => x = g) (Only.refl _ w) rfl _)
  have := setRow_heap w g _ (over cur off cs).toArray t _ hg
  show _ = _
  simpa [over] using this

/-- What holds at the head of each round of the outer loop. -/
def PRel (w : World) (p g : Nat) (X : Bytes) (N : Nat) (kl : List Bool) (k : Nat) (v9 : Value) (wr : World) : Prop :=
  ∃ d : Dsk, v9 = .int .i64 d.row.length ∧ Holds wr (fun j => w.heap.size ≤ j ∧ j ≠ g) p d ∧ Blk wr g 5 (cb (look X (kept kl d.row d.row.length))) ∧ d.dur = X ∧ d.n = N ∧
    d.down = false ∧ d.armed = false ∧ d.ops ≤ k ∧ d.row.length ≤ k * 64 ∧ Only (w.heap.size ≤ ·) w wr

set_option maxRecDepth 100000 in
set_option maxHeartbeats 3200000 in
theorem picks_walk (w : World) (A0 A1 A2 : Option Addr) (n0 c0 n1 c1 n2 c2 : Nat) (xs : Bytes) (l : List Cl) (kl : List Bool) (h0 : Src w (w.heap.size ≤ ·) A0 n0 (cb xs)) (hc0 : n0 ≤ c0) (hm0 : c0 ≤ maxLen) (h1 : Script w A1 n1 l)
    (h2 : SrcB w (w.heap.size ≤ ·) A2 kl) (hk2 : kl.length = n2) (hm2 : n2 ≤ maxLen) :
    Calls Try.prog 6 #[.slice A0 n0 c0, .slice A1 n1 c1, .slice A2 n2 c2] w fun e w' => e = .returned (.bool true) ∧ Only (w.heap.size ≤ ·) w w' := by
  have hm0' : (n0 : Int) ≤ 9223372036854775807 := by simp only [maxLen] at hm0; omega
  have hm2' : (n2 : Int) ≤ 9223372036854775807 := by simp only [maxLen] at hm2; omega
  have hxl : xs.length = n0 := by have := h0.1; rwa [cb_length] at this
  have HSrc := Lib.hid h0
  have HScr := Lib.hid h1
  have HBs := Lib.hid (And.intro h2 hk2)
  have Hm := Lib.hid (And.intro hc0 hm0)
  have HX := Lib.hid hxl
  clear h0 h1 h2 hk2 hc0 hm0 hxl hm2
  go_enter Try.func6, Try.ntmps6
  go_wp2_with fail
  refine (few_c w A1 n1 c1 l HScr.out).mono ?_
  rintro e w0 ⟨r, rfl, h60, ho0⟩
  have H60 := Lib.hid h60
  have HO0 := Lib.hid ho0
  clear h60 ho0
  have Halive : Hid (∀ W : World, Only (w.heap.size ≤ ·) w W → Calls Try.prog 8 #[] W fun e w' => e = .returned (.bool true) ∧ Only (w.heap.size ≤ ·) w w') := fun W hW =>
    (alive_c W).mono fun e w' ⟨he, ho⟩ => ⟨he, hW.trans (ho.mono fun k (hk : W.heap.size ≤ k) => Nat.le_trans hW.size hk)⟩
  cases r with
  | false =>
    go_wp2_with (go_at_call 8; refine (Halive.out _ HO0.out).mono ?_; rintro e w' ⟨rfl, ho⟩; have HF := Lib.hid ho; clear ho)
    all_goals
      go_ret
      exact ⟨rfl, HF.out⟩
  | true =>
    have Hn1 : Hid (n1 ≤ 60) := H60.out rfl
    by_cases hbig : 3000 < n0 ∨ 200 < n2
    · have d1 : (decide ((3000 : Int) < (n0 : Int)) = true) ∨ (decide ((3000 : Int) < (n0 : Int)) = false ∧ decide ((200 : Int) < (n2 : Int)) = true) := by
        by_cases h3 : 3000 < n0
        · left; simp; omega
        · right; constructor
          · simp; omega
          · simp; omega
      clear hbig
      rcases d1 with d1 | ⟨d1, d2⟩
      all_goals
        go_wp2_with (go_at_call 8; refine (Halive.out _ HO0.out).mono ?_; rintro e w' ⟨rfl, ho⟩; have HF := Lib.hid ho; clear ho)
        all_goals
          go_ret
          exact ⟨rfl, HF.out⟩
    · have d1 : decide ((3000 : Int) < (n0 : Int)) = false := by simp; omega
      have d2 : decide ((200 : Int) < (n2 : Int)) = false := by simp; omega
      have hn2 : n2 ≤ 200 := by omega
      have hsz0 := HO0.out.size
      have HL : Hid (∃ _ : True, Calls Try.prog 9 #[.slice A0 n0 c0, .int .i64 64] w0 fun e w' => ∃ p, e = .returned (.pointer (some ⟨p, 0, none⟩)) ∧ Hid (Holds w' (w.heap.size ≤ ·) p (Dsk.load xs 64) ∧ Only (w.heap.size ≤ ·) w w')) := by
        refine ⟨trivial, ?_⟩
        have hs : Src w0 (w0.heap.size ≤ ·) A0 xs.length (cb xs) := by
          have hx := HX.out
          refine ⟨by rw [cb_length], fun hp => ?_⟩
          obtain ⟨ad, e1, e2, e3⟩ := HSrc.out.2 (by omega)
          refine ⟨ad, e1, by omega, fun j u hu => ?_⟩
          exact (HO0.out.cell (p := ad.add j) (by rw [add_block]; exact e2)).trans (e3 j u hu)
        have hl := Load_c w0 (w0.heap.size ≤ ·) (fun _ h => h) A0 c0 xs 64 hs (by have := HX.out; have := Hm.out.1; omega) Hm.out.2
        rw [HX.out] at hl
        refine hl.mono ?_
        rintro e w' ⟨p, he, hh, ho⟩
        exact ⟨p, he, hh.mono (fun k _ hk => Nat.le_trans hsz0 hk), HO0.out.trans (ho.mono fun k (hk : w0.heap.size ≤ k) => Nat.le_trans hsz0 hk)⟩
      go_wp2_with (first | (go_at_call 9; refine HL.out.2.mono ?_; rintro e w1 ⟨p, rfl, H1⟩) | (go_at_call 11; refine (Image_c w1 _ p _ H1.out.1).mono ?_; rintro e w2 ⟨rfl, hb, ho⟩; have H2 := Lib.hid (And.intro hb ho); clear hb ho))
      have HN0 : Hid ((Dsk.load xs 64).n ≤ 64 ∧ (Dsk.load xs 64).dur.length = (Dsk.load xs 64).n * 64) := by
        have := (Dsk.WF.load xs 64).nl
        have e : (Dsk.load xs 64).limit = 64 := by simp [Dsk.load, cut]
        exact ⟨by omega, (Dsk.WF.load xs 64).len⟩
      obtain ⟨g, hg⟩ : ∃ g, g = w1.heap.size := ⟨_, rfl⟩
      have HK0 : Hid (PRel w p g (Dsk.load xs 64).dur (Dsk.load xs 64).n kl 0 (.int .i64 0) w2 ∧ w.heap.size ≤ g ∧ g < w2.heap.size) := by
        have hs1 := H1.out.2.size
        have hlt := H2.out.1.lt
        rw [hg]
        refine ⟨⟨Dsk.load xs 64, rfl, ?_, H2.out.1, rfl, rfl, rfl, rfl, Nat.le_refl _, Nat.le_refl _, ?_⟩, hs1, hlt⟩
        · exact (H1.out.1.below.keep H2.out.2 (fun k hk _ => by simp; omega)).mono fun k _ hk => ⟨hk.1, by omega⟩
        · exact H1.out.2.trans (H2.out.2.mono fun k (hk : w1.heap.size ≤ k) => by show w.heap.size ≤ k; omega)
      have hb60 : (n1 : Int) ≤ 60 := by have := Hn1.out; omega
      rw [← hg]
      generalize (Dsk.load xs 64).dur = X at HK0 HN0
      generalize (Dsk.load xs 64).n = N at HK0 HN0
      clear H1 H2 hg hbig
      have HG := Lib.hid HK0.out.2
      go_loopw [9, 36] (fun v i wr => ∃ k : Nat, k ≤ n1 ∧ i = .int .i64 k ∧ PRel w p g X N kl k v wr) (fun _ i _ => n1 - (intOf i).toNat)
      case atStart => exact ⟨0, Nat.zero_le _, rfl, HK0.out.1⟩
      case round =>
        obtain ⟨k, hk, rfl, d, rfl, hh, hbg, hdX, hdN, hdn, har, hops, hrow, honly⟩ := hrel
        have HH := Lib.hid hh
        have HB := Lib.hid hbg
        have HD := Lib.hid (And.intro hdn (And.intro har (And.intro hops (And.intro hrow (And.intro hdX hdN)))))
        have HO := Lib.hid honly
        have hglt := hbg.lt
        have hszr := honly.size
        have hLb : (d.row.length : Int) ≤ 4000 := by omega
        clear hh hbg hdn har hops hrow honly HK0 hdX hdN
        by_cases hlt : k < n1
        · obtain ⟨b, off, o, rfl, hb, _, hok, hr⟩ := HScr.out.at_ hlt
          have hr' := range_only hr HO.out (by omega)
          have q0 : wr.cell? ⟨b, off + k * 5, none⟩ = some (.int .i64 o.kind) := hr' 0 _ rfl
          have q1 : wr.cell? ⟨b, off + k * 5 + 1, none⟩ = some (.int .i64 o.at_) := hr' 1 _ rfl
          have q2 : wr.cell? ⟨b, off + k * 5 + 2, none⟩ = some (.int .i64 o.many) := hr' 2 _ rfl
          have q3 : wr.cell? ⟨b, off + k * 5 + 3, none⟩ = some (.slice o.B o.nB o.cB) := hr' 3 _ rfl
          have q4 : wr.cell? ⟨b, off + k * 5 + 4, none⟩ = some (.slice o.K o.nK o.cK) := hr' 4 _ rfl
          have hk0 : (0 : Int) ≤ (k : Int) := Int.natCast_nonneg _
          have hk1 : (k : Int) < (n1 : Int) := by omega
          have Hok := Lib.hid hok
          clear hr hr' hok
          by_cases hk2 : o.kind = 2
          · rw [hk2] at q0
            have HBx : Hid (Blk (wr.alloc (.cells #[.int .i64 2, .int .i64 o.at_, .int .i64 o.many, .slice o.B o.nB o.cB, .slice o.K o.nK o.cK] 34)) wr.heap.size 34 [.int .i64 2, .int .i64 o.at_, .int .i64 o.many, .slice o.B o.nB o.cB, .slice o.K o.nK o.cK]) := Blk.new wr 34 [.int .i64 2, .int .i64 o.at_, .int .i64 o.many, .slice o.B o.nB o.cB, .slice o.K o.nK o.cK]
            have hw := Write_c (wr.alloc (.cells #[.int .i64 2, .int .i64 o.at_, .int .i64 o.many, .slice o.B o.nB o.cB, .slice o.K o.nK o.cK] 34)) (fun j => (w.heap.size ≤ j ∧ j ≠ g) ∧ j ≠ wr.heap.size) (fun j hj => by simp at hj; exact ⟨⟨by omega, by omega⟩, by omega⟩) p d ((HH.out.below.alloc _).mono fun j _ hj => ⟨hj.1, by omega⟩) (by have := HD.out.2.2.1; omega) o.at_ Hok.out.a1.1 Hok.out.a1.2 o.B o.nB o.cB o.xs
              (Src.alloc ⟨by rw [cb_length]; exact Hok.out.hB.1, fun hp => by
                obtain ⟨ad, e1, e2, e3⟩ := Hok.out.hB.2 hp
                exact ⟨ad, e1, fun hx => by have := hx.1.1; omega, fun j u hu => (HO.out.cell (p := ad.add j) (by rw [add_block]; omega)).trans (e3 j u hu)⟩⟩ _) Hok.out.cB.1 Hok.out.cB.2 (by have := HD.out.2.2.2.1; omega)
            clear hk2
            rcases write_cases HD.out.1 HD.out.2.1 o.at_ o.xs with ⟨he, ha0, haM, hmod, hpos⟩ | ⟨he1, he2⟩
            · obtain ⟨a, hae⟩ : ∃ a : Nat, o.at_ = (a : Int) := ⟨o.at_.toNat, by omega⟩
              obtain ⟨M, hM⟩ : ∃ M, M = o.xs.length / 64 := ⟨_, rfl⟩
              have hnB : o.xs.length = o.nB := Hok.out.hB.1
              have ha' : o.at_.toNat = a := by omega
              rw [he] at hw
              rw [ha', ← hM] at hw haM
              have HW := Lib.hid hw
              have HM : Hid (M = o.nB / 64 ∧ o.nB % 64 = 0 ∧ a + M ≤ N ∧ 0 < o.nB ∧ o.xs.length = o.nB) := ⟨by rw [hM, hnB], by rw [← hnB]; exact hmod, by have := HD.out.2.2.2.2.2; omega, by omega, hnB⟩
              have HL : Hid (X.length = N * 64 ∧ Fits N (d.row ++ chunks a o.xs M)) := by
                have hwf := HH.out.1
                have e5 := HD.out.2.2.2.2.1
                have e6 := HD.out.2.2.2.2.2
                refine ⟨by rw [← e5, hwf.len, e6], ?_⟩
                have := hwf.fits
                rw [e6] at this
                exact this.append (chunks_fits (by omega) (by omega))
              rw [hae] at q1 HBx HW
              have haI : (0 : Int) ≤ (a : Int) := Int.natCast_nonneg _
              have hnBi : (o.nB : Int) ≤ 9223372036854775807 := by have h1 := Hok.out.cB.1; have h2 := Hok.out.cB.2; simp only [maxLen] at h2; omega
              have haN : (a : Int) ≤ 64 := by have := HM.out.2.2.1; have := HN0.out.1; omega
              clear hw he ha0 haM hmod hpos hM hnB ha' hae
              go_wp2_with (go_at_call 13; refine HW.out.mono ?_; rintro e w3 ⟨rfl, hh3, ho3⟩; have H3 := Lib.hid (And.intro hh3 ho3); have z1 := (ho3.cell (p := ⟨wr.heap.size, 1, none⟩) (by simp)).trans (HBx.out.cell 1); have z3 := (ho3.cell (p := ⟨wr.heap.size, 3, none⟩) (by simp)).trans (HBx.out.cell 3); simp only [List.getElem?_cons_succ, List.getElem?_cons_zero] at z1 z3; clear hh3 ho3)
              have HO3 : Hid (Only (w.heap.size ≤ ·) w w3) := (HO.out.alloc (fun _ h => h) _).trans (H3.out.2.mono fun j hj => hj.1.1)
              have HB3 : Hid (Blk w3 g 5 (cb (look X (kept kl (d.row ++ chunks a o.xs M) d.row.length)))) := by
                show Blk _ _ _ _
                rw [kept_prefix _ _ _ _ (Nat.le_refl _)]
                exact (HB.out.alloc _).only H3.out.2 (by simp)
              have HZ := Lib.hid (And.intro z1 z3)
              have hgr : g ≠ wr.heap.size := by omega
              have hsz3 := HO3.out.size
              clear z1 z3 q0 q1 q2 q3 q4
              go_loopw [9, 56] (fun v i wx => ∃ j q : Nat, j ≤ M ∧ q = d.row.length + j ∧ i = .int .i64 j ∧ v = .int .i64 q ∧ Blk wx g 5 (cb (look X (kept kl (d.row ++ chunks a o.xs M) q))) ∧ Only (· = g) w3 wx) (fun _ i _ => M - (intOf i).toNat)
              case atStart => exact ⟨0, d.row.length, Nat.zero_le _, by omega, rfl, rfl, HB3.out, Only.refl _ _⟩
              case round =>
                obtain ⟨j, q, hj, hq, rfl, rfl, hbx, hox⟩ := hrel
                have HBX := Lib.hid hbx
                have HOX := Lib.hid hox
                have HQ := Lib.hid hq
                have hqb : (q : Int) ≤ 5000 := by have := HM.out.2.2.1; have := HN0.out.1; omega
                have hMb : (M : Int) ≤ 64 := by have := HM.out.2.2.1; have := HN0.out.1; omega
                clear hbx hox hq
                have y1 : wr.cell? ⟨wr.heap.size, 1, none⟩ = wr.cell? ⟨wr.heap.size, 1, none⟩ := rfl
                clear y1
                by_cases hjm : j < M
                · have hj0 : (0 : Int) ≤ (j : Int) := Int.natCast_nonneg _
                  have hjd : (j : Int) < (o.nB : Int) / 64 := by have := HM.out.1; omega
                  have HNx : Hid (∀ bb, keepAt kl q = bb → kept kl (d.row ++ chunks a o.xs M) (q + 1) = kept kl (d.row ++ chunks a o.xs M) q ++ if bb = true then [(a + j, (o.xs.drop (j * 64)).take 64)] else []) := by
                    intro bb hbb
                    have := kept_next kl d.row a o.xs M j hjm
                    rw [← HQ.out, hbb] at this
                    exact this
                  have k1 := (HOX.out.cell (fun h => hgr h.symm)).trans HZ.out.1
                  have k3 := (HOX.out.cell (fun h => hgr h.symm)).trans HZ.out.2
                  obtain ⟨adB, hoB, hBlt, hBc⟩ := Hok.out.hB.2 HM.out.2.2.2.1
                  rw [hoB] at k3
                  have hcB : (o.nB : Int) ≤ (o.cB : Int) := by have := Hok.out.cB.1; omega
                  have HBc : Hid (∀ i u, (cb o.xs)[i]? = some u → wr.cell? (adB.add i) = some u) := fun i u hu =>
                    ((HOX.out.cell (p := adB.add i) (by rw [add_block]; have := HG.out.1; intro h; have : adB.block = g := h; omega)).trans (HO3.out.cell (p := adB.add i) (by rw [add_block]; simp; omega))).trans (hBc i u hu)
                  clear hBc hoB
                  by_cases h2 : 0 < n2
                  · obtain ⟨ad, rfl, hFad, hcell⟩ := HBs.out.1 (by rw [HBs.out.2]; exact h2)
                    obtain ⟨bb, hbb⟩ : ∃ bb, kl[q % n2]? = some bb := ⟨_, List.getElem?_eq_getElem (by rw [HBs.out.2]; exact Nat.mod_lt _ h2)⟩
                    have hkeep : keepAt kl q = bb := by
                      have := HBs.out.2
                      unfold keepAt
                      rw [this, List.getD_eq_getElem?_getD, hbb]
                      simp [h2]
                    have hadlt : ad.block < w.heap.size := by simpa using hFad
                    have hcb : wr.cell? (ad.add (q % n2)) = some (.bool bb) :=
                      ((HOX.out.cell (p := ad.add (q % n2)) (by rw [add_block]; have := HG.out.1; intro h; have : ad.block = g := h; omega)).trans (HO3.out.cell (p := ad.add (q % n2)) (by rw [add_block]; simp; omega))).trans (hcell _ _ hbb)
                    have hm0 : (0 : Int) ≤ (q : Int) % (n2 : Int) := Int.emod_nonneg _ (by omega)
                    have hm1 : (q : Int) % (n2 : Int) < (n2 : Int) := Int.emod_lt_of_pos _ (by omega)
                    have hnkz : ¬ ((n2 : Int) = 0) := by omega
                    have Hkeep := Lib.hid hkeep
                    clear hkeep hbb hcell hFad hadlt
                    cases bb with
                    | false =>
                      have HN : Hid (Blk wr g 5 (cb (look X (kept kl (d.row ++ chunks a o.xs M) (q + 1))))) := by
                        show Blk _ _ _ _
                        rw [HNx.out false Hkeep.out, if_neg (by decide), List.append_nil]
                        exact HBX.out
                      go_wp2
                      go_roundw
                      case rel => exact ⟨j + 1, q + 1, by omega, by have := HQ.out; omega, by go_num, by go_num, HN.out, HOX.out⟩
                      case measure => simp [intOf]; omega
                    | true =>
                      have HN0' := HN0.out.1
                      have HMM := HM.out
                      have w1' : IntKind.i64.wrap ((a : Int) + (j : Int)) = (a : Int) + (j : Int) := IntWalk.i64_in _ (by omega)
                      have w2' : IntKind.i64.wrap (((a : Int) + (j : Int)) * 64) = ((a : Int) + (j : Int)) * 64 := IntWalk.i64_in _ (by omega)
                      have w3' : (((a : Int) + (j : Int)) * 64).toNat = (a + j) * 64 := by omega
                      have w4' : IntKind.i64.wrap ((j : Int) * 64) = (j : Int) * 64 := IntWalk.i64_in _ (by omega)
                      have w5' : ((j : Int) * 64).toNat = j * 64 := by omega
                      have w6' : IntKind.i64.wrap ((j : Int) + 1) = (j : Int) + 1 := IntWalk.i64_in _ (by omega)
                      have w7' : IntKind.i64.wrap (((j : Int) + 1) * 64) = ((j : Int) + 1) * 64 := IntWalk.i64_in _ (by omega)
                      have w8' : (((j : Int) + 1) * 64).toNat = (j + 1) * 64 := by omega
                      have b1 : (0 : Int) ≤ ((a : Int) + (j : Int)) * 64 := by omega
                      have b2 : ((a : Int) + (j : Int)) * 64 ≤ (N : Int) * 64 := by omega
                      have b3 : (0 : Int) ≤ (j : Int) * 64 := by omega
                      have b4 : (j : Int) * 64 ≤ ((j : Int) + 1) * 64 := by omega
                      have b5 : ((j : Int) + 1) * 64 ≤ (o.cB : Int) := by omega
                      have b6 : ¬ (N * 64 = (a + j) * 64) := by omega
                      have b7 : ¬ (o.cB = j * 64) := by omega
                      have b8 : (a : Int) + (j : Int) ≤ (N : Int) := by omega
                      obtain ⟨sx, hsx⟩ : ∃ sx, sx = (o.xs.drop (j * 64)).take 64 := ⟨_, rfl⟩
                      have hsl : sx.length = 64 := by rw [hsx]; simp; omega
                      have Hsl : Hid ((cb sx).length = Nat.min ((j + 1) * 64 - j * 64) (N * 64 - (a + j) * 64)) := by
                        show _ = _
                        rw [cb_length, hsl]
                        have : (j + 1) * 64 - j * 64 = 64 := by omega
                        rw [this]
                        exact (Nat.min_eq_left (by omega)).symm
                      have Hsrc : Hid (∀ i v, (cb sx)[i]? = some v → wr.drew.cell? ((adB.add (j * 64)).add i) = some v) := by
                        intro i v hv
                        rw [hsx, cb_take, List.getElem?_take] at hv
                        split at hv
                        · rw [cb_drop, List.getElem?_drop] at hv
                          have e1 : (adB.add (j * 64)).add i = adB.add (j * 64 + i) := by
                            unfold Addr.add
                            by_cases hi : j * 64 = 0 <;> by_cases hj' : i = 0 <;> simp [hi, hj', Nat.add_assoc]
                          rw [e1]
                          exact HBc.out _ v hv
                        · cases hv
                      have HYl : Hid ((look X (kept kl (d.row ++ chunks a o.xs M) q)).length = N * 64) := look_length _ _ (kept_fits HL.out.2) HL.out.1
                      have Hfit : Hid ((a + j) * 64 + (cb sx).length ≤ (cb (look X (kept kl (d.row ++ chunks a o.xs M) q))).length) := by
                        have := HYl.out
                        show _ ≤ _
                        rw [cb_length, cb_length, hsl, this]
                        omega
                      have Hnext : Hid (kept kl (d.row ++ chunks a o.xs M) (q + 1) = kept kl (d.row ++ chunks a o.xs M) q ++ [(a + j, sx)]) := by
                        have := HNx.out true Hkeep.out
                        rw [← hsx] at this
                        exact this
                      have b9 : (0 : Int) ≤ ((j : Int) + 1) * 64 := by omega
                      have b10 : (j : Int) ≤ (j : Int) + 1 := by omega
                      clear HN0' HMM hsx hsl
                      go_wp2
                      go_region_law (refine step_copy_only (w := wr.drew) rfl (.tmp 77) (.tmp 85) 22 22 rfl 5 Try.underlying22 size5 (adB.add (j * 64)) (N * 64 - (a + j) * 64) (N * 64 - (a + j) * 64) ((j + 1) * 64 - j * 64) (o.cB - j * 64) g ((a + j) * 64) (by simp [Act.eval, Act.put]) (by simp [Act.eval, Act.put]) _ 5 HBX.out.drew (cb sx) Hsl.out Hsrc.out Hfit.out (cb_one sx) ?_; intro wz HBz hbz)
                      all_goals
                        have HN : Hid (Blk wz g 5 (cb (look X (kept kl (d.row ++ chunks a o.xs M) (q + 1)))) ∧ Only (· = g) w3 wz) := by
                          refine ⟨?_, HOX.out.trans (((Only.refl _ wr).drew).trans hbz)⟩
                          rw [Hnext.out, look_append]
                          have h := HBz.out
                          rw [← cb_over] at h
                          exact h
                        clear HBz hbz w1' w2' w3' w4' w5' w6' w7' w8'
                        go_wp2
                        go_roundw
                        case rel => exact ⟨j + 1, q + 1, by omega, by have := HQ.out; omega, by go_num, by go_num, HN.out.1, HN.out.2⟩
                        case measure => simp [intOf]; omega
                  · have HN : Hid (Blk wr g 5 (cb (look X (kept kl (d.row ++ chunks a o.xs M) (q + 1))))) := by
                      have := HBs.out.2
                      show Blk _ _ _ _
                      rw [HNx.out false (by unfold keepAt; simp; omega), if_neg (by decide), List.append_nil]
                      exact HBX.out
                    go_wp2
                    go_roundw
                    case rel => exact ⟨j + 1, q + 1, by omega, by have := HQ.out; omega, by go_num, by go_num, HN.out, HOX.out⟩
                    case measure => simp [intOf]; omega
                · have hjd : ¬ (j : Int) < (o.nB : Int) / 64 := by have := HM.out.1; omega
                  have HN : Hid (PRel w p g X N kl (k + 1) (.int .i64 q) wr) := by
                    obtain ⟨e1, e2, e3, e4, e5, e6⟩ := HD.out
                    have hjj : j = M := by omega
                    have hql : q = (d.row ++ chunks a o.xs M).length := by rw [List.length_append, chunks_length, HQ.out, hjj]
                    have hsx := HOX.out.size
                    refine ⟨{ d with row := d.row ++ chunks a o.xs M, ops := d.ops + 1 }, by rw [hql], (H3.out.1.keep HOX.out (fun i hi _ => by have := hi.1.2; exact this)).mono (fun i _ hi => hi.1), ?_, e5, e6, e1, e2, by show d.ops + 1 ≤ k + 1; omega, ?_, HO3.out.trans (HOX.out.mono fun i hi => by show w.heap.size ≤ i; have := HG.out.1; have : i = g := hi; omega)⟩
                    · show Blk _ _ _ (cb (look X (kept kl (d.row ++ chunks a o.xs M) (d.row ++ chunks a o.xs M).length)))
                      rw [← hql]
                      exact HBX.out
                    · show (d.row ++ chunks a o.xs M).length ≤ (k + 1) * 64
                      rw [List.length_append, chunks_length]
                      have := HM.out.2.2.1
                      have := HN0.out.1
                      omega
                  go_wp2
                  go_roundw
                  case rel => exact ⟨k + 1, by omega, by go_num, HN.out⟩
                  case measure => simp [intOf]; omega
            · obtain ⟨d', E, hdE⟩ : ∃ d' E, d.write o.at_ o.xs = (d', E) := ⟨_, _, rfl⟩
              rw [hdE] at hw he1 he2
              simp only at he1 he2
              subst he1
              have hE : (E != 0) = true := by rw [bne, he2]; rfl
              have HW := Lib.hid hw
              clear hw hdE he2
              go_wp2_with (go_at_call 13; refine HW.out.mono ?_; rintro e w3 ⟨rfl, hh3, ho3⟩; have H3 := Lib.hid (And.intro hh3 ho3); clear hh3 ho3)
              have HN : Hid (PRel w p g X N kl (k + 1) (.int .i64 d'.row.length) w3) := by
                obtain ⟨e1, e2, e3, e4, e5, e6⟩ := HD.out
                exact ⟨d', rfl, H3.out.1.mono (fun j _ hj => hj.1), (HB.out.alloc _).only H3.out.2 (by simp), e5, e6, e1, e2, by omega, by omega, (HO.out.alloc (fun _ h => h) _).trans (H3.out.2.mono fun j hj => hj.1.1)⟩
              go_roundw
              case rel => exact ⟨k + 1, by omega, by go_num, HN.out⟩
              case measure => simp [intOf]; omega
          · have t2 : (o.kind != 2) = true := by simpa using hk2
            have HN : Hid (PRel w p g X N kl (k + 1) (.int .i64 d.row.length) (wr.alloc (.cells o.cells.toArray 34))) := by
              obtain ⟨e1, e2, e3, e4, e5, e6⟩ := HD.out
              exact ⟨d, rfl, HH.out.alloc _, HB.out.alloc _, e5, e6, e1, e2, by omega, by omega, HO.out.alloc (fun _ h => h) _⟩
            clear hk2
            go_wp2
            go_roundw
            case rel => exact ⟨k + 1, by omega, by go_num, HN.out⟩
            case measure => simp [intOf]; omega
        · have hkm : ¬ (k : Int) < (n1 : Int) := by omega
          have hrl : d.row.length ≤ 4294967296 := by have := HD.out.2.2.2.1; omega
          have hsk : Hid (SrcB wr (fun j => w.heap.size ≤ j ∧ j ≠ g) A2 kl) := by
            intro hp
            obtain ⟨ad, e1, e2, e3⟩ := HBs.out.1 hp
            have e2' : ad.block < w.heap.size := by simpa using e2
            exact ⟨ad, e1, fun hx => by have := hx.1; omega, fun j b hb => (HO.out.cell (p := ad.add j) (by rw [add_block]; simp; omega)).trans (e3 j b hb)⟩
          have hl : Hid ((look X (kept kl d.row d.row.length)).length = N * 64 ∧ (d.crash kl).n = N ∧ (d.crash kl).see = look X (kept kl d.row d.row.length)) := by
            have hwf := HH.out.1
            have e5 := HD.out.2.2.2.2.1
            have e6 := HD.out.2.2.2.2.2
            have hf := hwf.fits
            rw [e6] at hf
            refine ⟨look_length _ _ (kept_fits hf) (by rw [← e5, hwf.len, e6]), by rw [← e6]; rfl, by rw [← e5]; rfl⟩
          have hkl := HBs.out.2
          clear hk hlt
          go_wp2_with fail
          refine (Pending_c wr _ p d HH.out).mono ?_
          rintro e w' ⟨rfl, rfl⟩
          go_wp2_with fail
          refine (Crash_c wr (fun j => w.heap.size ≤ j ∧ j ≠ g) (fun j hj => ⟨by omega, by omega⟩) p d HH.out hrl A2 c2 n2 kl hkl hsk.out (by omega)).mono ?_
          rintro e x1 ⟨rfl, hh1, ho1⟩
          have C1 : Hid (Holds x1 (fun j => w.heap.size ≤ j ∧ j ≠ g) p (d.crash kl)) := hh1
          have G1 : Hid (Blk x1 g 5 (cb (look X (kept kl d.row d.row.length)))) := HB.out.only ho1 (by simp)
          have O1 : Hid (Only (w.heap.size ≤ ·) w x1) := HO.out.trans (ho1.mono fun j hj => hj.1)
          clear hh1 ho1 hkl
          go_wp2_with fail
          refine (alive_c x1).mono ?_
          rintro e x2 ⟨rfl, ho2⟩
          have K2 : Hid (After x1 x2 0) := ⟨ho2, Nat.zero_le _⟩
          clear ho2
          have hs1 := O1.out.size
          go_wp2_with fail
          refine (Image_c x2 _ p _ (K2.out.holds C1.out)).mono ?_
          rintro e x3 ⟨rfl, hb3, ho3⟩
          have I3 := Lib.hid hb3
          have K3 : Hid (After x1 x3 0) := K2.out.next ho3
          clear hb3 ho3
          go_wp2_with fail
          refine (says (Equal_c x3 _ _ _ _ _ _ _ _ (txt_of I3.out (by rw [hl.out.2.2, hl.out.1, hl.out.2.1])) (txt_of (K3.out.blk G1.out) hl.out.1)) (b := .bool true) (by rw [hl.out.2.2]; simp)).mono ?_
          rintro e x4 ⟨rfl, rfl⟩
          go_wp2_with fail
          refine (says (Pending_c x3 _ _ _ (K3.out.holds C1.out)) (b := .int .i64 0) rfl).mono ?_
          rintro e x5 ⟨rfl, rfl⟩
          go_wp2_with fail
          go_ret
          exact ⟨rfl, O1.out.trans (K3.out.1.mono fun j (hj : x1.heap.size ≤ j) => by show w.heap.size ≤ j; omega)⟩
end Go.Proofs.Ytelgeddheheokaa
