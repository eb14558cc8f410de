/-
  TreePaths.
-/
import Derived.Test.YtdpdlhfjemehcaaTlv
import Derived.Test.YtdpdlhfjemehcaaTkq
import Derived.Test.YtdpdlhfjemehcaaTst
import Derived.Test.YtdpdlhfjemehcaaTfw
import Derived.Test.YtdpdlhfjemehcaaTop
set_option linter.unusedVariables false
namespace Go.Proofs.Ytdpdlhfjemehcaa
open Go.RowKit

theorem sum_get {l : List Nm} {x : Nm} (h : x ∈ l) : szN x ≤ sumN l := by
  induction l with
  | nil => cases h
  | cons y l ih =>
    have h3 : sumN (y :: l) = szN y + sumN l := by simp [sumN]
    rcases List.mem_cons.1 h with rfl | h
    · omega
    · have := ih h
      omega
theorem few_FewN {l : List Nm} (hok : ∀ x ∈ l, OkN x) (h : fewB l = true) : FewN l := by
  unfold fewB at h
  rw [Bool.and_eq_true, decide_eq_true_eq, decide_eq_true_eq] at h
  refine ⟨by omega, fun x hx => ?_⟩
  have h1 := sum_get hx
  unfold szN at h1
  obtain ⟨_, h2, h3⟩ := hok x hx
  exact ⟨by omega, by omega, fun y hy => ⟨(h2 y hy).1, (h2 y hy).2.1⟩, fun y hy => h3 y hy⟩
theorem okN_len {l : List Nm} (hok : ∀ x ∈ l, OkN x) : ∀ x ∈ l, x.2.its.length ≤ 70368744177664 ∧ x.2.kds.length ≤ 70368744177664 := fun x hx => (hok x hx).1
/-- The nodes of a way are of the row. -/
theorem down_mem {l : List Nm} {ch : Nd → Nat} : ∀ (k : Nat) (r : Int), ∀ y ∈ (downP l ch k r).2, ∃ ref, nodeP l ref = some y.2.1
  | 0, r, y, hy => by simp [downP] at hy
  | k + 1, r, y, hy => by
    rw [downP] at hy
    cases hno : nodeP l r with
    | none =>
      rw [hno] at hy
      simp at hy
    | some x =>
      rw [hno] at hy
      simp only at hy
      split at hy
      · simp at hy
      · split at hy
        · simp at hy
          subst hy
          exact ⟨r, hno⟩
        · split at hy
          · rcases List.mem_cons.1 hy with rfl | hy
            · exact ⟨r, hno⟩
            · exact down_mem k _ y hy
          · simp at hy
theorem down_sml {l : List Nm} {ch : Nd → Nat} (hf : FewN l) (k : Nat) (r : Int) : ∀ y ∈ (downP l ch k r).2, Sml y.2.1 := fun y hy => by
  obtain ⟨ref, h⟩ := down_mem k r y hy
  have := hf.get ref
  rw [h] at this
  exact this
/-- What the law asks of each node. -/
def GoodN (x : Nm) : Prop := RisN x.2 ∧ (x.2.leaf = true → x.2.kds = []) ∧ (x.2.leaf = false → x.2.its = [])
theorem path_same (key : Bytes) : chP key = dchP 0 key := funext (ch_find key)
theorem edge_first : chE false = dchP 1 [] := funext ch_first
theorem edge_last : chE true = dchP 2 [] := funext ch_last
theorem rises_b (w : World) (A B : Option Addr) (n c m d : Nat) (f : Bool) (x : Nd) (h : Nod w x f (.slice A n c) (.slice B m d)) (r : Bool) (hr : r = true ↔ RisN x) :
    Calls Try.prog 10 #[.agg #[.bool f, .slice A n c, .slice B m d]] w (Told w (.bool r)) :=
  (rises_c w A B n c m d f x h).mono fun e w' ⟨⟨r', he, hr'⟩, ho⟩ => ⟨by rw [he, show r' = r from Bool.eq_iff_iff.2 (hr'.trans hr.symm)], ho⟩
theorem good_ok {l : List Nm} {root : Int} (hg : ∀ x ∈ l, GoodN x) : ∀ ref x, Vis l root ref → nodeP l ref = some x → okP x := fun ref x _ hx _ => by
  obtain ⟨y, hy, rfl⟩ := nodeP_mem hx
  exact fun k a b h1 h2 => (hg y hy).1.1 k a b h1 h2
set_option maxRecDepth 100000 in
set_option maxHeartbeats 25600000 in
theorem paths_walk (HM : MeetC) (w : World) (A K : Option Addr) (n c kn kc : Nat) (root : Int) (l : List Nm) (key : Bytes) (h : Nms w (.slice A n c) l) (hv : Src w (.slice K kn kc) key) (hok : ∀ x ∈ l, OkN x) :
    Calls Try.prog 3 #[.slice A n c, .int .i64 root, .slice K kn kc] w (Told w (.bool true)) := by
  have HN := Lib.hid h
  have HV := Lib.hid hv
  have HOK := Lib.hid hok
  have HNL := Lib.hid h.len
  have hcap := h.cap
  have HFW := Lib.hid (few_w w A n c l h (okN_len hok))
  clear h hv hok
  have HO : Hid (Only (w.heap.size ≤ ·) w w) := Lib.hid (Only.refl _ _)
  obtain ⟨fb, hfb⟩ : ∃ b, b = fewB l := ⟨_, rfl⟩
  rw [← hfb] at HFW
  have HFB := Lib.hid hfb
  clear hfb
  go_enter Try.func3, Try.ntmps3
  cases fb with
  | false =>
    go_wp2_with (first
      | (go_at_call 8; (with_reducible refine HFW.out.mono ?_); rintro e w1 ⟨rfl, ho⟩; replace HO := Lib.hid ho; clear ho)
      | (go_at_call 9; (with_reducible refine (talive_c HM _).mono ?_); rintro e w9 ⟨rfl, ho⟩; have HOF := Lib.hid (on_new HO.out ho); clear ho))
    go_ret
    exact ⟨rfl, HOF.out⟩
  | true =>
    by_cases hk : 100 < kn
    · have hk' : (100 : Int) < (kn : Int) := by omega
      go_wp2_with (first
        | (go_at_call 8; (with_reducible refine HFW.out.mono ?_); rintro e w1 ⟨rfl, ho⟩; replace HO := Lib.hid ho; clear ho)
        | (go_at_call 9; (with_reducible refine (talive_c HM _).mono ?_); rintro e w9 ⟨rfl, ho⟩; have HOF := Lib.hid (on_new HO.out ho); clear ho))
      go_ret
      exact ⟨rfl, HOF.out⟩
    · have hk' : ¬ (100 : Int) < (kn : Int) := by omega
      have HF := Lib.hid (few_FewN HOK.out HFB.out.symm)
      go_upto_region 4 with (go_at_call 8; (with_reducible refine HFW.out.mono ?_); rintro e w1 ⟨rfl, ho⟩; replace HO := Lib.hid ho; clear ho)
      go_loopg [32] n (fun gk i wr => ∃ k : Nat, gk = n - k ∧ k ≤ n ∧ i = .int .i64 (k : Int) ∧ Hid (Only (w.heap.size ≤ ·) w wr) ∧ Hid (∀ x ∈ l.take k, GoodN x))
      case atStart => exact ⟨0, rfl, Nat.zero_le _, rfl, HO, Lib.hid (fun x hx => by simp at hx)⟩
      case round =>
        clear HO
        obtain ⟨k, rfl, hkn, rfl, HO, HGK⟩ := hrel
        by_cases hlt : k < n
        · have hlt' : (k : Int) < (n : Int) := by omega
          obtain ⟨b, off, x, Q, R, s, q, t, u, rfl, hb, hx, q0, q1, q2, q3, hnd⟩ := nms_at (HN.out.later HO.out) hlt
          have HX := Lib.hid hx
          have HND := Lib.hid hnd
          have HSQ : Hid (s = x.2.its.length ∧ t = x.2.kds.length) := Lib.hid ⟨hnd.2.1.len, hnd.2.2.len⟩
          obtain ⟨lf, hlf⟩ : ∃ lf, lf = x.2.leaf := ⟨_, rfl⟩
          rw [← hlf] at q1 HND
          have HLF := Lib.hid hlf
          clear hx hnd hlf
          go_upto_region 6 with (fail)
          by_cases hris : RisN x.2
          · have HRB : Hid (true = true ↔ RisN x.2) := Lib.hid ⟨fun _ => hris, fun _ => rfl⟩
            have HRS := Lib.hid hris
            clear hris
            cases lf with
            | true =>
              obtain ⟨w2, hw2⟩ : ∃ z9, z9 = wr.alloc (.cells #[.int .i64 x.1, .bool true, .slice Q s q, .slice R t u] 31) := ⟨_, rfl⟩
              obtain ⟨b8, hb8⟩ : ∃ z9, z9 = wr.heap.size := ⟨_, rfl⟩
              have Hb8 : Hid (Blk w2 b8 31 [.int .i64 x.1, .bool true, .slice Q s q, .slice R t u]) := Lib.hid (by rw [hw2, hb8]; exact Blk.new wr _ [.int .i64 x.1, .bool true, .slice Q s q, .slice R t u])
              have HXb8 : Hid (Only (wr.heap.size ≤ ·) wr w2) := Lib.hid (by rw [hw2]; exact (Only.refl _ wr).alloc (fun _ h => h) _)
              have HEQb8 : Hid (w2 = wr.alloc (.cells #[.int .i64 x.1, .bool true, .slice Q s q, .slice R t u] 31) ∧ b8 = wr.heap.size) := Lib.hid ⟨hw2, hb8⟩
              clear hw2 hb8
              replace HO := Lib.hid (on_new HO.out HXb8.out)
              have HND2 := Lib.hid (HND.out.later HXb8.out)
              rw [← HEQb8.out.1, ← HEQb8.out.2]
              clear q0 q1 q2 q3 hb HFW
              obtain ⟨c0, c1, c2, c3⟩ := Hb8.out.four
              by_cases ht : 0 < t
              · have ht' : (0 : Int) < (t : Int) := by omega
                go_wp2_with (first
                  | (go_at_call 10; (with_reducible refine (rises_b w2 Q R s q t u true x.2 HND2.out true HRB.out).mono ?_); rintro e w3 ⟨rfl, ho⟩; have HB3 := Lib.hid (Hb8.out.later ho); have HO3 := Lib.hid (on_new HO.out ho); (obtain ⟨d0, d1, d2, d3⟩ := HB3.out.four); clear ho)
                  | (go_at_call 9; (with_reducible refine (talive_c HM _).mono ?_); rintro e w9 ⟨rfl, ho⟩; have HOF := Lib.hid (on_new HO3.out ho); clear ho))
                go_ret
                exact ⟨rfl, HOF.out⟩
              · have ht' : ¬ (0 : Int) < (t : Int) := by omega
                have HT0 : Hid (t = 0) := Lib.hid (by omega)
                go_wp2_with (go_at_call 10; (with_reducible refine (rises_b w2 Q R s q t u true x.2 HND2.out true HRB.out).mono ?_); rintro e w3 ⟨rfl, ho⟩; have HB3 := Lib.hid (Hb8.out.later ho); have HO3 := Lib.hid (on_new HO.out ho); (obtain ⟨d0, d1, d2, d3⟩ := HB3.out.four); clear ho)
                go_roundg (n - (k + 1))
                case measure => omega
                case rel => exact ⟨k + 1, rfl, by omega, by go_num, HO3, Lib.hid (fun y hy => by
                  rw [List.take_add_one, HX.out] at hy
                  rcases List.mem_append.1 hy with h | h
                  · exact HGK.out y h
                  · simp only [Option.toList_some, List.mem_singleton] at h
                    subst h
                    exact ⟨HRS.out, fun _ => List.length_eq_zero_iff.1 (by rw [← HSQ.out.2]; exact HT0.out), fun e => by rw [← HLF.out] at e; cases e⟩)⟩
            | false =>
              obtain ⟨w2, hw2⟩ : ∃ z9, z9 = wr.alloc (.cells #[.int .i64 x.1, .bool false, .slice Q s q, .slice R t u] 31) := ⟨_, rfl⟩
              obtain ⟨b8, hb8⟩ : ∃ z9, z9 = wr.heap.size := ⟨_, rfl⟩
              have Hb8 : Hid (Blk w2 b8 31 [.int .i64 x.1, .bool false, .slice Q s q, .slice R t u]) := Lib.hid (by rw [hw2, hb8]; exact Blk.new wr _ [.int .i64 x.1, .bool false, .slice Q s q, .slice R t u])
              have HXb8 : Hid (Only (wr.heap.size ≤ ·) wr w2) := Lib.hid (by rw [hw2]; exact (Only.refl _ wr).alloc (fun _ h => h) _)
              have HEQb8 : Hid (w2 = wr.alloc (.cells #[.int .i64 x.1, .bool false, .slice Q s q, .slice R t u] 31) ∧ b8 = wr.heap.size) := Lib.hid ⟨hw2, hb8⟩
              clear hw2 hb8
              replace HO := Lib.hid (on_new HO.out HXb8.out)
              have HND2 := Lib.hid (HND.out.later HXb8.out)
              rw [← HEQb8.out.1, ← HEQb8.out.2]
              clear q0 q1 q2 q3 hb HFW
              obtain ⟨c0, c1, c2, c3⟩ := Hb8.out.four
              by_cases hs : 0 < s
              · have hs' : (0 : Int) < (s : Int) := by omega
                go_wp2_with (first
                  | (go_at_call 10; (with_reducible refine (rises_b w2 Q R s q t u false x.2 HND2.out true HRB.out).mono ?_); rintro e w3 ⟨rfl, ho⟩; have HB3 := Lib.hid (Hb8.out.later ho); have HO3 := Lib.hid (on_new HO.out ho); (obtain ⟨d0, d1, d2, d3⟩ := HB3.out.four); clear ho)
                  | (go_at_call 9; (with_reducible refine (talive_c HM _).mono ?_); rintro e w9 ⟨rfl, ho⟩; have HOF := Lib.hid (on_new HO3.out ho); clear ho))
                go_ret
                exact ⟨rfl, HOF.out⟩
              · have hs' : ¬ (0 : Int) < (s : Int) := by omega
                have HS0 : Hid (s = 0) := Lib.hid (by omega)
                go_wp2_with (go_at_call 10; (with_reducible refine (rises_b w2 Q R s q t u false x.2 HND2.out true HRB.out).mono ?_); rintro e w3 ⟨rfl, ho⟩; have HB3 := Lib.hid (Hb8.out.later ho); have HO3 := Lib.hid (on_new HO.out ho); (obtain ⟨d0, d1, d2, d3⟩ := HB3.out.four); clear ho)
                go_roundg (n - (k + 1))
                case measure => omega
                case rel => exact ⟨k + 1, rfl, by omega, by go_num, HO3, Lib.hid (fun y hy => by
                  rw [List.take_add_one, HX.out] at hy
                  rcases List.mem_append.1 hy with h | h
                  · exact HGK.out y h
                  · simp only [Option.toList_some, List.mem_singleton] at h
                    subst h
                    exact ⟨HRS.out, (fun e => by rw [← HLF.out] at e; cases e), fun _ => List.length_eq_zero_iff.1 (by rw [← HSQ.out.1]; exact HS0.out)⟩)⟩
          · have HRB : Hid (false = true ↔ RisN x.2) := Lib.hid ⟨(fun h => nomatch h), fun h => absurd h hris⟩
            clear hris
            obtain ⟨w2, hw2⟩ : ∃ z9, z9 = wr.alloc (.cells #[.int .i64 x.1, .bool lf, .slice Q s q, .slice R t u] 31) := ⟨_, rfl⟩
            obtain ⟨b8, hb8⟩ : ∃ z9, z9 = wr.heap.size := ⟨_, rfl⟩
            have Hb8 : Hid (Blk w2 b8 31 [.int .i64 x.1, .bool lf, .slice Q s q, .slice R t u]) := Lib.hid (by rw [hw2, hb8]; exact Blk.new wr _ [.int .i64 x.1, .bool lf, .slice Q s q, .slice R t u])
            have HXb8 : Hid (Only (wr.heap.size ≤ ·) wr w2) := Lib.hid (by rw [hw2]; exact (Only.refl _ wr).alloc (fun _ h => h) _)
            have HEQb8 : Hid (w2 = wr.alloc (.cells #[.int .i64 x.1, .bool lf, .slice Q s q, .slice R t u] 31) ∧ b8 = wr.heap.size) := Lib.hid ⟨hw2, hb8⟩
            clear hw2 hb8
            replace HO := Lib.hid (on_new HO.out HXb8.out)
            have HND2 := Lib.hid (HND.out.later HXb8.out)
            rw [← HEQb8.out.1, ← HEQb8.out.2]
            clear q0 q1 q2 q3 hb HFW
            obtain ⟨c0, c1, c2, c3⟩ := Hb8.out.four
            go_wp2_with (first
              | (go_at_call 10; (with_reducible refine (rises_b w2 Q R s q t u lf x.2 HND2.out false HRB.out).mono ?_); rintro e w3 ⟨rfl, ho⟩; have HB3 := Lib.hid (Hb8.out.later ho); have HO3 := Lib.hid (on_new HO.out ho); (obtain ⟨d0, d1, d2, d3⟩ := HB3.out.four); clear ho)
              | (go_at_call 9; (with_reducible refine (talive_c HM _).mono ?_); rintro e w9 ⟨rfl, ho⟩; have HOF := Lib.hid (on_new HO3.out ho); clear ho))
            go_ret
            exact ⟨rfl, HOF.out⟩
        · obtain rfl : k = n := by omega
          have hkm : ¬ (k : Int) < (k : Int) := by omega
          have HG : Hid (∀ x ∈ l, GoodN x) := Lib.hid (fun x hx => HGK.out x (by rw [HNL.out, List.take_length]; exact hx))
          have HLL : Hid (l.length ≤ 1000000) := Lib.hid (by have := HF.out.1; omega)
          replace HN := Lib.hid (Rw.later HN.out HO.out)
          replace HV := Lib.hid (Src.later HV.out HO.out)
          obtain ⟨R1, hR1⟩ : ∃ R, R = downP l (chP key) 12 root := ⟨_, rfl⟩
          have HR1 := Lib.hid hR1
          have HL1 : Hid (R1.2.length ≤ 1000000 ∧ ∀ y ∈ R1.2, Sml y.2.1) := Lib.hid ⟨by rw [hR1]; have := down_len (l := l) (ch := chP key) 12 root; omega, by rw [hR1]; exact down_sml HF.out 12 root⟩
          clear hR1
          obtain ⟨e1, p1⟩ := R1
          simp only at HL1
          obtain ⟨R2, hR2⟩ : ∃ R, R = downP l (chE false) 12 root := ⟨_, rfl⟩
          have HR2 := Lib.hid hR2
          have HL2 : Hid (R2.2.length ≤ 1000000 ∧ ∀ y ∈ R2.2, Sml y.2.1) := Lib.hid ⟨by rw [hR2]; have := down_len (l := l) (ch := chE false) 12 root; omega, by rw [hR2]; exact down_sml HF.out 12 root⟩
          clear hR2
          obtain ⟨e2, p2⟩ := R2
          simp only at HL2
          obtain ⟨R3, hR3⟩ : ∃ R, R = downP l (chE true) 12 root := ⟨_, rfl⟩
          have HR3 := Lib.hid hR3
          have HL3 : Hid (R3.2.length ≤ 1000000 ∧ ∀ y ∈ R3.2, Sml y.2.1) := Lib.hid ⟨by rw [hR3]; have := down_len (l := l) (ch := chE true) 12 root; omega, by rw [hR3]; exact down_sml HF.out 12 root⟩
          clear hR3
          obtain ⟨e3, p3⟩ := R3
          simp only at HL3
          clear HGK HFW hcap HNL HFB
          go_upto_region 10 with (first
              | (go_at_call 12; (with_reducible refine (Source_c _ A k c).mono ?_); rintro e w4 ⟨⟨bl, rfl, _, hbl⟩, ho⟩; replace HO := Lib.hid (on_new HO.out ho); replace HN := Lib.hid (Rw.later HN.out ho); replace HV := Lib.hid (Src.later HV.out ho); have HBL := Lib.hid hbl; clear hbl ho)
              | (go_at_call 11; have hc := Path_c _ bl A k c root l K kn kc key HBL.out HN.out HF.out HV.out (good_ok HG.out); rw [← HR1.out] at hc; (with_reducible refine hc.mono ?_); rintro e w11 ⟨⟨SP1, sP1, tP1, er, path, rfl, hp, hsp⟩, ho⟩; cases hp; (obtain rfl := hsp.len); replace HO := Lib.hid (on_new HO.out ho); replace HN := Lib.hid (Rw.later HN.out ho); replace HV := Lib.hid (Src.later HV.out ho); have HP1 := Lib.hid hsp; clear hsp hc ho))
          clear HBL
          go_upto_region 11 with (go_at_call 13; have hc := rPath_c l 0 (.inl rfl) key HLL.out 12 (Nat.le_refl _) _ A k c root K kn kc HN.out HV.out; rw [show ((12 : Nat) : Int) = 12 from rfl, ← path_same] at hc; rw [← HR1.out] at hc; (with_reducible refine hc.mono ?_); rintro e w12 ⟨⟨SQ1, sQ1, tQ1, rfl, hsp⟩, ho⟩; (obtain rfl := hsp.len); replace HO := Lib.hid (on_new HO.out ho); replace HN := Lib.hid (Rw.later HN.out ho); replace HV := Lib.hid (Src.later HV.out ho); replace HP1 := Lib.hid (Rw.later HP1.out ho); have HQ1 := Lib.hid hsp; clear hsp hc ho)
          go_upto_region 12 with (first
              | (go_at_call 12; (with_reducible refine (Source_c _ A k c).mono ?_); rintro e w4 ⟨⟨bl, rfl, _, hbl⟩, ho⟩; replace HO := Lib.hid (on_new HO.out ho); replace HN := Lib.hid (Rw.later HN.out ho); replace HV := Lib.hid (Src.later HV.out ho); replace HP1 := Lib.hid (Rw.later HP1.out ho); replace HQ1 := Lib.hid (Rw.later HQ1.out ho); have HBL := Lib.hid hbl; clear hbl ho)
              | (go_at_call 14; have hc := Edge_c _ bl A k c root l false HBL.out HN.out HF.out; rw [← HR2.out] at hc; (with_reducible refine hc.mono ?_); rintro e w13 ⟨⟨SP2, sP2, tP2, er, path, rfl, hp, hsp⟩, ho⟩; cases hp; (obtain rfl := hsp.len); replace HO := Lib.hid (on_new HO.out ho); replace HN := Lib.hid (Rw.later HN.out ho); replace HV := Lib.hid (Src.later HV.out ho); replace HP1 := Lib.hid (Rw.later HP1.out ho); replace HQ1 := Lib.hid (Rw.later HQ1.out ho); have HP2 := Lib.hid hsp; clear hsp hc ho))
          clear HBL
          go_upto_region 13 with (go_at_call 13; have hc := rPath_c l 1 (.inr (.inl rfl)) [] HLL.out 12 (Nat.le_refl _) _ A k c root none 0 0 HN.out (Src.nil_ _); rw [show ((12 : Nat) : Int) = 12 from rfl, ← edge_first] at hc; rw [← HR2.out] at hc; (with_reducible refine hc.mono ?_); rintro e w14 ⟨⟨SQ2, sQ2, tQ2, rfl, hsp⟩, ho⟩; (obtain rfl := hsp.len); replace HO := Lib.hid (on_new HO.out ho); replace HN := Lib.hid (Rw.later HN.out ho); replace HV := Lib.hid (Src.later HV.out ho); replace HP1 := Lib.hid (Rw.later HP1.out ho); replace HQ1 := Lib.hid (Rw.later HQ1.out ho); replace HP2 := Lib.hid (Rw.later HP2.out ho); have HQ2 := Lib.hid hsp; clear hsp hc ho)
          go_upto_region 14 with (first
              | (go_at_call 12; (with_reducible refine (Source_c _ A k c).mono ?_); rintro e w4 ⟨⟨bl, rfl, _, hbl⟩, ho⟩; replace HO := Lib.hid (on_new HO.out ho); replace HN := Lib.hid (Rw.later HN.out ho); replace HV := Lib.hid (Src.later HV.out ho); replace HP1 := Lib.hid (Rw.later HP1.out ho); replace HQ1 := Lib.hid (Rw.later HQ1.out ho); replace HP2 := Lib.hid (Rw.later HP2.out ho); replace HQ2 := Lib.hid (Rw.later HQ2.out ho); have HBL := Lib.hid hbl; clear hbl ho)
              | (go_at_call 14; have hc := Edge_c _ bl A k c root l true HBL.out HN.out HF.out; rw [← HR3.out] at hc; (with_reducible refine hc.mono ?_); rintro e w15 ⟨⟨SP3, sP3, tP3, er, path, rfl, hp, hsp⟩, ho⟩; cases hp; (obtain rfl := hsp.len); replace HO := Lib.hid (on_new HO.out ho); replace HN := Lib.hid (Rw.later HN.out ho); replace HV := Lib.hid (Src.later HV.out ho); replace HP1 := Lib.hid (Rw.later HP1.out ho); replace HQ1 := Lib.hid (Rw.later HQ1.out ho); replace HP2 := Lib.hid (Rw.later HP2.out ho); replace HQ2 := Lib.hid (Rw.later HQ2.out ho); have HP3 := Lib.hid hsp; clear hsp hc ho))
          clear HBL
          go_upto_region 15 with (go_at_call 13; have hc := rPath_c l 2 (.inr (.inr rfl)) [] HLL.out 12 (Nat.le_refl _) _ A k c root none 0 0 HN.out (Src.nil_ _); rw [show ((12 : Nat) : Int) = 12 from rfl, ← edge_last] at hc; rw [← HR3.out] at hc; (with_reducible refine hc.mono ?_); rintro e w16 ⟨⟨SQ3, sQ3, tQ3, rfl, hsp⟩, ho⟩; (obtain rfl := hsp.len); replace HO := Lib.hid (on_new HO.out ho); replace HN := Lib.hid (Rw.later HN.out ho); replace HV := Lib.hid (Src.later HV.out ho); replace HP1 := Lib.hid (Rw.later HP1.out ho); replace HQ1 := Lib.hid (Rw.later HQ1.out ho); replace HP2 := Lib.hid (Rw.later HP2.out ho); replace HQ2 := Lib.hid (Rw.later HQ2.out ho); replace HP3 := Lib.hid (Rw.later HP3.out ho); have HQ3 := Lib.hid hsp; clear hsp hc ho)
          go_wp2_with (first
              | (go_at_call 9; (with_reducible refine (talive_c HM _).mono ?_); rintro e w20 ⟨rfl, ho⟩; replace HO := Lib.hid (on_new HO.out ho); replace HN := Lib.hid (Rw.later HN.out ho); replace HV := Lib.hid (Src.later HV.out ho); replace HP1 := Lib.hid (Rw.later HP1.out ho); replace HQ1 := Lib.hid (Rw.later HQ1.out ho); replace HP2 := Lib.hid (Rw.later HP2.out ho); replace HQ2 := Lib.hid (Rw.later HQ2.out ho); replace HP3 := Lib.hid (Rw.later HP3.out ho); replace HQ3 := Lib.hid (Rw.later HQ3.out ho); clear ho)
              | (go_at_call 15; (with_reducible refine (steps_c _ _ _ _ _ _ p1 HP1.out HQ1.out HL1.out.2 HL1.out.1).mono ?_); rintro e w21 ⟨rfl, ho⟩; replace HO := Lib.hid (on_new HO.out ho); replace HN := Lib.hid (Rw.later HN.out ho); replace HV := Lib.hid (Src.later HV.out ho); replace HP1 := Lib.hid (Rw.later HP1.out ho); replace HQ1 := Lib.hid (Rw.later HQ1.out ho); replace HP2 := Lib.hid (Rw.later HP2.out ho); replace HQ2 := Lib.hid (Rw.later HQ2.out ho); replace HP3 := Lib.hid (Rw.later HP3.out ho); replace HQ3 := Lib.hid (Rw.later HQ3.out ho); clear ho)
              | (go_at_call 15; (with_reducible refine (steps_c _ _ _ _ _ _ p2 HP2.out HQ2.out HL2.out.2 HL2.out.1).mono ?_); rintro e w22 ⟨rfl, ho⟩; replace HO := Lib.hid (on_new HO.out ho); replace HN := Lib.hid (Rw.later HN.out ho); replace HV := Lib.hid (Src.later HV.out ho); replace HP1 := Lib.hid (Rw.later HP1.out ho); replace HQ1 := Lib.hid (Rw.later HQ1.out ho); replace HP2 := Lib.hid (Rw.later HP2.out ho); replace HQ2 := Lib.hid (Rw.later HQ2.out ho); replace HP3 := Lib.hid (Rw.later HP3.out ho); replace HQ3 := Lib.hid (Rw.later HQ3.out ho); clear ho)
              | (go_at_call 15; (with_reducible refine (steps_c _ _ _ _ _ _ p3 HP3.out HQ3.out HL3.out.2 HL3.out.1).mono ?_); rintro e w23 ⟨rfl, ho⟩; replace HO := Lib.hid (on_new HO.out ho); replace HN := Lib.hid (Rw.later HN.out ho); replace HV := Lib.hid (Src.later HV.out ho); replace HP1 := Lib.hid (Rw.later HP1.out ho); replace HQ1 := Lib.hid (Rw.later HQ1.out ho); replace HP2 := Lib.hid (Rw.later HP2.out ho); replace HQ2 := Lib.hid (Rw.later HQ2.out ho); replace HP3 := Lib.hid (Rw.later HP3.out ho); replace HQ3 := Lib.hid (Rw.later HQ3.out ho); clear ho))
          go_ret
          exact ⟨rfl, HO.out⟩
end Go.Proofs.Ytdpdlhfjemehcaa
