/-
  Proved: PoolAllUptoSaid: whatever the state, the three numbers and the script, where what comes in is of bulk at most 1048576, the law PoolAll returns true, and the arguments read behind the call as they read before. (Of arguments that fill a machine's memory the law's own append panics: so the first form does not hold.) No other condition of ours.
-/
import Derived.Test.YtmadlckladohbaaGreatPll
import Derived.Test.YtmadlckladohbaaGreatHd
import Derived.OpenShut
import Derived.JoinedCond
set_option linter.unusedVariables false
namespace Go.Proofs.YtmadlckladohbaaGreat
open Go.ChangeShapes Go.WideShapes Go.ChangeAt Go.RowKit Go.Deep

theorem all_walk (w : World) (A B C : Option Addr) (nn cc mm dd n c : Nat) (a b : List R) (t p lim : Int) (l : List OpD) (ha : Row w (.slice A nn cc) a) (hb : Row w (.slice B mm dd) b) (hai : ∀ x ∈ a, I64 x) (hbi : ∀ x ∈ b, I64 x) (hla : a.length ≤ 2000000) (hlb : b.length ≤ 2000000) (hl : Os w C l) (hn : l.length = n) (hln : n ≤ 20000000) (hli : ∀ o ∈ l, I64o o) (ht : t ≤ 9223372036854775807) :
    Calls Tryz.prog 3 #[.agg #[.slice A nn cc, .slice B mm dd], .agg #[.int .i64 t, .int .i64 p, .int .i64 lim], .slice C n c] w (Told w (.bool true)) := by
  by_cases h : ¬ FewOk a b p l ∨ ¬ NewOk a b t p lim
  · exact all_early w A B C nn cc mm dd n c a b t p lim l ha hb hai hbi hla hlb hl hn hln hli ht h
  · simp only [not_or, Classical.not_not] at h
    exact all_main w A B C nn cc mm dd n c a b t p lim l ha hb hai hbi hla hlb hl hn hln hli ht h.1 h.2

set_option maxRecDepth 100000 in
theorem all_contract (H : Type) (enc : TypeId × Value → H) (W : World) (base : Nat) (args : Array Value) (ds gs : List (DataW H)) (before : List MemPlace)
    (hval : ∀ (j : Nat) t v, Tryz.f3.params[j]? = some t → args[j]? = some v → Value.okWide Tryz.prog W .any base t v)
    (hW : DataW.Whole enc Tryz.prog Tryz.f3.params.toList Rows.poolAllSpec.vars false W args.toList ds gs before) (hk : Rows.uptoSmall H (ds ++ gs) = true) :
    Calls Tryz.prog 3 args W fun e W' => ∃ v, e = .returned v ∧ Rows.poolAllSpec.post enc Tryz.prog Tryz.f3 false true false false W args v W' := by
  have hW' := hW
  have hlt : ∀ p ∈ before, p.block < W.heap.size := fun p hp => hW.lt p hp
  obtain ⟨p, q, hA0, hV, rfl, hfz, hnd⟩ := hW
  have hA : DataW.TrodAll enc Tryz.prog W 0 (fun _ => true) true Tryz.f3.params.toList args.toList ds p := hA0
  rw [Tryz.params3] at hA hval
  obtain ⟨v0, v1, v2, d0, d1, d2, p0, p1, p2, rfl, rfl, rfl, h0, h1, h2⟩ := trodAll_three hA
  obtain ⟨rfl, rfl⟩ := trodVars_none hV
  have hsm : Rows.uptoBulkAll [d0, d1, d2] ≤ 1048576 := of_decide_eq_true (by rw [List.append_nil] at hk; exact hk)
  obtain ⟨A, B, nn, cc, mm, dd, a, b, rfl, ha, hb, hai, hbi, hna, hnb⟩ := state_arg (hval 0 24 v0 rfl rfl) h0
  obtain ⟨t, pp, lim, rfl, ht⟩ := threeI_arg (hval 1 25 v1 rfl rfl) h1
  obtain ⟨C, n, c, l, rfl, hl, hn, hli, hnb⟩ := ops_arg (hval 2 26 v2 rfl rfl) h2
  have hln : n ≤ 20000000 := by
    have := bulk_cons d1 [d2]
    have := bulk_cons d0 [d1, d2]
    have := bulk_cons d2 []
    omega
  have hd0 : Rows.uptoBulk d0 ≤ 1048576 := Nat.le_trans (bulk_cons d0 [d1, d2]).1 hsm
  have hla : a.length ≤ 2000000 := by rw [row_n ha]; omega
  have hlb : b.length ≤ 2000000 := by rw [row_n hb]; omega
  clear hA0 hk
  simp only [List.append_nil] at hW' hlt
  refine (all_walk W A B C nn cc mm dd n c a b t pp lim l ha hb hai hbi hla hlb hl hn hln hli ht).mono fun e W' ⟨he, ho⟩ => ?_
  subst he
  have hbl : Below W.heap.size W W' := ho.toBelow fun _ h => h
  exact ⟨_, rfl, post_new (pa := p0 ++ (p1 ++ p2)) (pv := []) hW' (fun _ _ _ => trodAll_mk1 (shut_bool Tryz.underlying4 _))
    (fun sp hsp => trodAll_mk3
      (later (by kernel_rfl) (of_decide_eq_true (by kernel_rfl)) h0 hbl (fun x hx => hlt x (by simp [hx])) (fun x hx => hsp x (by simp [hx])))
      (later (by kernel_rfl) (of_decide_eq_true (by kernel_rfl)) h1 hbl (fun x hx => hlt x (by simp [hx])) (fun x hx => hsp x (by simp [hx])))
      (later (by kernel_rfl) (of_decide_eq_true (by kernel_rfl)) h2 hbl (fun x hx => hlt x (by simp [hx])) (fun x hx => hsp x (by simp [hx]))))
    (fun _ _ => rfl) (by simp) hbl⟩

set_option maxRecDepth 100000 in
theorem all_lifted (os : _root_.Go.Os) (started : os.Started) (H : Type) (enc : TypeId × Value → H) (F : Stop.Interp) :
    ReturnsInHanded {} Tryz.checked os 3 .any ((Rows.OpenSpec.upto Rows.poolAllSpec).pre6 enc Tryz.prog Tryz.f3 Rows.poolAllUptoRow.domain false) (((Rows.OpenSpec.upto Rows.poolAllSpec).at F).post enc Tryz.prog Tryz.f3 false true false false) := by
  refine returnsInHanded_of_cond (C := Tryz.checked) (s := Rows.OpenSpec.upto Rows.poolAllSpec) (k := Rows.uptoSmall) rfl Tryz.own started (by kernel_rfl) Tryz.func3
    (OpenSpec.witness (enc := enc) (C := Tryz.checked) (s := Rows.OpenSpec.upto Rows.poolAllSpec) (k := Rows.uptoSmall) rfl false ⟨#[], #[.agg #[.slice none 0 0, .slice none 0 0], .agg #[.int .i64 0, .int .i64 0, .int .i64 0], .slice none 0 0], []⟩ 8 (by kernel_rfl) (by kernel_rfl) (by kernel_rfl)
      (x := ([.agg [.nil, .nil], .agg [.lit (.int .i64 0), .lit (.int .i64 0), .lit (.int .i64 0)], .nil], [], [])) (by kernel_rfl) rfl (by kernel_rfl)) ?_
  intro W base args ds gs before hval hW _ hk _
  exact all_contract H enc W base args ds gs before hval hW hk

theorem all_holds : Rows.PoolAllUptoSaid :=
  OpenClaim.holds_of_cond 3 Tryz.f3 rfl rfl rfl rfl rfl rfl rfl ⟨rfl, rfl, rfl, rfl, rfl⟩ rfl rfl rfl rfl rfl (by kernel_rfl) Tryz.func3 (by kernel_rfl)
    (of_decide_eq_true (by kernel_rfl)) (by unfold Func.isWrapper; first | (rw [if_pos (by decide +kernel)]; kernel_rfl) | (rw [if_neg (by decide +kernel)]; exact ⟨rfl, rfl⟩))
    (fun os started H enc _ F => all_lifted os started H enc F)

end Go.Proofs.YtmadlckladohbaaGreat
