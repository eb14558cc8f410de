/-
  Proved: ItemFourCardSaid: whatever the number and the four items, the law ItemFour returns true, and each argument reads behind the call as it read before; the listed variable (the table regauge/item.gens of the generations) lies as the program's text lays it (the card's tie, given). The card ties it to the pruned copy of the project. No condition of ours.
-/
import Derived.Test.YtkhimppgpdaiaaaDoorFowk
import Derived.Test.YtkhimppgpdaiaaaDoorArgs
import Derived.Test.YtkhimppgpdaiaaaDoorCards
import Derived.Test.YtkhimppgpdaiaaaDoorTie
import Derived.Lay
import Derived.LaidOnce
import Derived.SevenTiedAt
set_option linter.unusedVariables false
namespace Go.Proofs.YtkhimppgpdaiaaaDoor
open Go.ChangeShapes Go.WideShapes Go.ChangeAt Go.RowKit

theorem okWide_array {P : Program} {w : World} {q : Reach} {base : Nat} {t e : TypeId} {n : Nat} {v : Value} (ht : P.underlying t = some (.array n e)) (h : Value.okWide P w q base t v) : ∃ cs, v = .agg cs ∧ cs.size = P.cellsOf t := by
  simp only [Value.okWide, ht] at h
  obtain ⟨cs, h1, h2, _⟩ := h
  exact ⟨cs, h1, h2⟩
def pick {α : Type} (a b c d : α) : Nat → α
  | 0 => a
  | 1 => b
  | 2 => c
  | _ => d
set_option maxRecDepth 100000 in
theorem four_arg {H : Type} {enc : TypeId × Value → H} {w : World} {base : Nat} {v : Value} {d : DataW H} {p : List MemPlace} (hv : Value.okWide Tryd.prog w .any base 46 v) (h : DataW.Trod enc Tryd.prog w 0 (fun _ => true) true 46 v d p) :
    ∃ (A B : Nat → Option Addr) (n c m d : Nat → Nat) (s r : Nat → Int), v = .agg #[.slice (A 0) (n 0) (c 0), .slice (B 0) (m 0) (d 0), .int .i64 (s 0), .int .i64 (r 0), .slice (A 1) (n 1) (c 1), .slice (B 1) (m 1) (d 1), .int .i64 (s 1), .int .i64 (r 1), .slice (A 2) (n 2) (c 2), .slice (B 2) (m 2) (d 2), .int .i64 (s 2), .int .i64 (r 2), .slice (A 3) (n 3) (c 3), .slice (B 3) (m 3) (d 3), .int .i64 (s 3), .int .i64 (r 3)] := by
  obtain ⟨fuel, hf⟩ := h
  obtain ⟨cs, rfl, hsz⟩ := okWide_array Tryd.underlying46 hv
  rw [show Tryd.prog.cellsOf 46 = 16 by kernel_rfl] at hsz
  obtain ⟨ys, n', _, _, hcl, hyl, hg⟩ := DataW.trod_array Tryd.underlying46 (show DataW.trod enc Tryd.prog w 0 (fun _ => true) true fuel 46 cs.toList = some (d, p) by simpa [Value.cells] using hf)
  rw [show Tryd.prog.cellsOf 27 = 4 by kernel_rfl] at hg
  have hl : cs.toList.length = 16 := by simpa using hsz
  have each : ∀ i, i < 4 → ∃ (A B : Option Addr) (n c m d : Nat) (s r : Int), (cs.toList.drop (i * 4)).take 4 = [.slice A n c, .slice B m d, .int .i64 s, .int .i64 r] := fun i hi => by
    obtain ⟨y, hy⟩ : ∃ y, ys[i]? = some y := ⟨_, List.getElem?_eq_getElem (by omega)⟩
    obtain ⟨A, B, n, c, m, d, s, r, xs, zs, e, _⟩ := item_open (by rw [List.length_take, List.length_drop, hl]; omega) ((hg i hi).trans hy)
    exact ⟨A, B, n, c, m, d, s, r, e⟩
  obtain ⟨A0, B0, n0, c0, m0, d0, s0, r0, e0⟩ := each 0 (by decide)
  obtain ⟨A1, B1, n1, c1, m1, d1, s1, r1, e1⟩ := each 1 (by decide)
  obtain ⟨A2, B2, n2, c2, m2, d2, s2, r2, e2⟩ := each 2 (by decide)
  obtain ⟨A3, B3, n3, c3, m3, d3, s3, r3, e3⟩ := each 3 (by decide)
  refine ⟨pick A0 A1 A2 A3, pick B0 B1 B2 B3, pick n0 n1 n2 n3, pick c0 c1 c2 c3, pick m0 m1 m2 m3, pick d0 d1 d2 d3, pick s0 s1 s2 s3, pick r0 r1 r2 r3, ?_⟩
  have s : cs.toList = (cs.toList.drop (0 * 4)).take 4 ++ ((cs.toList.drop (1 * 4)).take 4 ++ ((cs.toList.drop (2 * 4)).take 4 ++ (cs.toList.drop (3 * 4)).take 4)) := by
    generalize cs.toList = l at hl
    match l, hl with
    | [_, _, _, _, _, _, _, _, _, _, _, _, _, _, _, _], _ => rfl
  rw [e0, e1, e2, e3] at s
  congr 1
  exact Array.toList_inj.1 s

set_option maxRecDepth 100000 in
theorem four_contract (H : Type) (enc : TypeId × Value → H) (W : World) (base : Nat) (args : Array Value) (ds gs : List (DataW H)) (before : List MemPlace) (hG : Gens W)
    (hval : ∀ (j : Nat) t v, Tryd.f7.params[j]? = some t → args[j]? = some v → Value.okWide Tryd.prog W .any base t v)
    (hW : DataW.Whole enc Tryd.prog Tryd.f7.params.toList Rows.itemFourSpec.vars false W args.toList ds gs before) :
    Calls Tryd.prog 7 args W fun e W' => ∃ v, e = .returned v ∧ Rows.itemFourSpec.post enc Tryd.prog Tryd.f7 false true false false W args v W' := by
  have hW' := hW
  have hlt : ∀ p ∈ before, p.block < W.heap.size := fun p hp => hW.lt p hp
  obtain ⟨p, q, hA0, hV, rfl, hfz, hnd⟩ := hW
  have hA : DataW.TrodAll enc Tryd.prog W 0 (fun _ => true) true Tryd.f7.params.toList args.toList ds p := hA0
  rw [Tryd.params7] at hA hval
  obtain ⟨v0, v1, d0, d1, p0, p1, rfl, rfl, rfl, h0, h1⟩ := trodAll_two hA
  obtain ⟨rfl, rfl⟩ := trodVars_none hV
  obtain ⟨g, rfl, _, _, _⟩ := open_int Tryd.underlying3 (hval 0 3 v0 rfl rfl) h0
  obtain ⟨A, B, n, c, m, d, s, r, rfl⟩ := four_arg (hval 1 46 v1 rfl rfl) h1
  clear hA0
  simp only [List.append_nil] at hW' hlt
  refine (four_walk A B n c m d s r W g hG).mono fun e W' ⟨he, ho⟩ => ?_
  subst he
  have hb : Below W.heap.size W W' := ho.toBelow fun _ h => h
  exact ⟨_, rfl, post_new (pa := p0 ++ p1) (pv := []) hW' (fun _ _ _ => trodAll_mk1 (shut_bool Tryd.underlying4 _))
    (fun sp hsp => trodAll_mk2
      (later (by kernel_rfl) (of_decide_eq_true (by kernel_rfl)) h0 hb (fun x hx => hlt x (by simp [hx])) (fun x hx => hsp x (by simp [hx])))
      (later (by kernel_rfl) (of_decide_eq_true (by kernel_rfl)) h1 hb (fun x hx => hlt x (by simp [hx])) (fun x hx => hsp x (by simp [hx]))))
    (fun _ _ => rfl) (by simp) hb⟩

set_option maxRecDepth 100000 in
theorem four_lifted (os : Os) (started : os.Started) (H : Type) (enc : TypeId × Value → H) :
    ReturnsInHanded {} Tryd.checked os 7 .any (fun w args => (Rows.itemFourSpec.pre enc Tryd.prog Tryd.f7 [] false w args ∧ laidMetH Tryd.prog Rows.itemFourRow.laid w) ∧ sizedMet enc Tryd.prog Tryd.f7 (OpenSpec.ofChange Rows.itemFourSpec) false w args)
      (Rows.itemFourSpec.post enc Tryd.prog Tryd.f7 false true false false) := by
  refine returnsInHanded_of_change_and (C := Tryd.checked) (X := fun w _ => laidMetH Tryd.prog Rows.itemFourRow.laid w) (fun _ _ _ hh h => h.of_heap hh) Tryd.own started (by kernel_rfl) Tryd.func7
    (ChangeSpec.witness_shaped (enc := enc) (C := Tryd.checked) (os := os) (X := fun w _ => laidMetH Tryd.prog Rows.itemFourRow.laid w) false (World.laidAll Tryd.prog os Rows.itemFourRow.laid) #[.int .i64 0, .agg #[.slice none 0 0, .slice none 0 0, .int .i64 0, .int .i64 0, .slice none 0 0, .slice none 0 0, .int .i64 0, .int .i64 0, .slice none 0 0, .slice none 0 0, .int .i64 0, .int .i64 0, .slice none 0 0, .slice none 0 0, .int .i64 0, .int .i64 0]] 8 (World.laidAll_os _ _ _)
      (World.shaped_of_ZipB (by kernel_rfl) (by kernel_rfl)) (by kernel_rfl) (by kernel_rfl) (by kernel_rfl)
      (by rw [MakeChecks.laidMetH_plain _ _ _ (by kernel_rfl)]; exact laidMet_laidAll _ (by kernel_rfl) (by kernel_rfl))) ?_
  intro W base args ds gs before hval hW _ _ hL _
  exact four_contract H enc W base args ds gs before (gens_of_laid hL) hval hW

theorem four_holds : Rows.ItemFourSaid :=
  OpenClaim.holds_of_wide 7 Tryd.f7 rfl rfl rfl rfl rfl rfl rfl ⟨rfl, rfl, rfl, rfl, rfl⟩ rfl rfl rfl rfl rfl (by kernel_rfl) Tryd.func7 (by kernel_rfl)
    (of_decide_eq_true (by kernel_rfl)) (by unfold Func.isWrapper; first | (rw [if_pos (by decide +kernel)]; kernel_rfl) | (rw [if_neg (by decide +kernel)]; exact ⟨rfl, rfl⟩))
    (fun os started H enc _ => four_lifted os started H enc)

theorem four_card : Rows.ItemFourCardSaid :=
  Claim7.holds_tied_plain_at .later [] [.data] true (true, "7716850cbed83d9f800eaf00b3b8d889f96fe1d8d81080994087d72ab1286f7e") false four_holds (fun _ h => by cases h) (by kernel_rfl) (fun _ h => by cases h) itemFour_row_tie rfl ⟨rfl, rfl⟩ (by kernel_rfl) rfl
    (fun f fn hf hfn => by
      obtain rfl : f = 7 := Option.some.inj ((show Tryd.prog.funcNamed "regauge/regaugelaw05.ItemFour" = some 7 by kernel_rfl).symm.trans hf) |>.symm
      obtain rfl : fn = Tryd.f7 := (Option.some.inj (Tryd.func7.symm.trans hfn)).symm
      exact ⟨by kernel_rfl, fun j t ht => by
        rw [Tryd.params7] at ht
        have hm : t ∈ [3, 46] := by simpa using Array.mem_of_getElem? ht
        have hall : ([3, 46].all fun u => !Tryd.prog.wantsStandIn u) = true := by kernel_rfl
        exact (show Tryd.prog.wantsStandIn t = false by simpa using List.all_eq_true.1 hall t hm)⟩)
    (by kernel_rfl)
end Go.Proofs.YtkhimppgpdaiaaaDoor
