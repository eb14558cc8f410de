/-
  Several texts, as one.
-/
import Derived.Test.YtbgnfocfnjlabaaDoorGi
import Derived.Test.YtbgnfocfnjlabaaDoorHeq
import Derived.Test.YtbgnfocfnjlabaaDoorRhd
import Derived.Test.YtbgnfocfnjlabaaDoorOtr
import Derived.Test.YtbgnfocfnjlabaaDoorOid
import Derived.Test.YtbgnfocfnjlabaaDoorGb
/-
  The document's Page and ids.
-/
set_option linter.unusedVariables false
namespace Go.Proofs.YtbgnfocfnjlabaaDoor
open Go.RowKit

/-- Has an image that page? Its bytes. -/
def pgOk (img : Bytes) (id : Int) : Bool := decide (0 ≤ id ∧ id < (img.length : Int) / 256)
def pgB (img : Bytes) (id : Int) : Bytes := if pgOk img id = true then (img.drop (id.toNat * 256)).take 256 else []
theorem pgB_len (img : Bytes) (id : Int) : (pgB img id).length ≤ 256 := by
  unfold pgB
  split
  · rw [List.length_take]; omega
  · simp
theorem pg_nums {i n : Nat} (hn : n ≤ 6000) (h : (i : Int) < (n : Int) / 256) : wrap64 (256 * (i : Int)) = ((i * 256 : Nat) : Int) ∧ wrap64 (((i * 256 : Nat) : Int) + 256) = ((i * 256 + 256 : Nat) : Int) ∧ i * 256 + 256 ≤ n := by
  refine ⟨?_, ?_, by omega⟩
  · rw [wrap_same (by unfold I64; omega)]; omega
  · rw [wrap_same (by unfold I64; omega)]; omega
set_option maxRecDepth 100000 in
set_option maxHeartbeats 400000 in
theorem rPage_c (w : World) (A : Option Addr) (n c : Nat) (img : Bytes) (id : Int) (hv : Src w (.slice A n c) img) (hn : n ≤ 6000) :
    Calls Tryd.prog 14 #[.slice A n c, .int .i64 id] w fun e w' => ∃ v, e = .returned (.tuple #[v, .bool (pgOk img id)]) ∧ Src w v (pgB img id) ∧ w = w' := by
  have hnv : n = img.length := by
    obtain ⟨A', c', e, _⟩ := hv
    simp only [Value.slice.injEq] at e
    exact e.2.1
  by_cases a1 : id < 0
  · have HP : Hid (pgOk img id = false) := Lib.hid (decide_eq_false (by omega))
    have HB : Hid (pgB img id = []) := Lib.hid (by unfold pgB; rw [HP.out]; rfl)
    go_enter Tryd.func14, Tryd.ntmps14
    go_wp2
    go_ret2
    rw [HP.out, HB.out]
    exact ⟨_, rfl, Src.nil_ _, rfl⟩
  by_cases a2 : (n : Int) / 256 ≤ id
  · have HP : Hid (pgOk img id = false) := Lib.hid (decide_eq_false (by rw [← hnv]; omega))
    have HB : Hid (pgB img id = []) := Lib.hid (by unfold pgB; rw [HP.out]; rfl)
    go_enter Tryd.func14, Tryd.ntmps14
    go_wp2
    go_ret2
    rw [HP.out, HB.out]
    exact ⟨_, rfl, Src.nil_ _, rfl⟩
  obtain ⟨i, rfl⟩ : ∃ i : Nat, id = (i : Int) := ⟨id.toNat, by omega⟩
  have hlt : (i : Int) < (n : Int) / 256 := by omega
  have HP : Hid (pgOk img i = true) := Lib.hid (decide_eq_true (by rw [← hnv]; omega))
  have HB : Hid (pgB img i = (img.drop (i * 256)).take 256) := Lib.hid (by unfold pgB; rw [HP.out, if_pos rfl, Int.toNat_natCast])
  obtain ⟨b, off, rfl, hx1, hcn, hcm, hx2⟩ := src_form hv (by omega)
  clear hx1 hx2
  have hcc : ¬ c = 256 * i := by omega
  have b2 : 0 ≤ 256 * (i : Int) + 256 := by omega
  have b3 : 256 * (i : Int) + 256 ≤ (c : Int) := by omega
  have HR : Hid (Src w (.slice (some ⟨b, off + 256 * i, none⟩) 256 (c - 256 * i)) ((img.drop (i * 256)).take 256)) := Lib.hid (by
    have h := src_wino (i := 256 * i) (k := 256) hv (by omega) (by omega)
    rwa [Nat.mul_comm 256 i] at h ⊢)
  clear hnv hv hcn hcm hlt
  go_enter Tryd.func14, Tryd.ntmps14
  go_wp2
  go_ret2
  rw [HP.out, HB.out]
  exact ⟨_, rfl, HR.out, rfl⟩
/-- The pages of a value by what its pages say. -/
def idsD (img : Bytes) (g : Int) : Int → Nat → List Int
  | _, 0 => []
  | id, k + 1 => id :: (if g = 3 then idsD img g (id + 1) k else if pgOk img id = true ∧ hdE (pgB img id) = 0 then idsD img g (hdX (pgB img id) : Nat) k else [])
theorem ci_snoc (l : List Int) (x : Int) : ci (l ++ [x]) = ci l ++ [.int .i64 x] := by unfold ci; rw [List.map_append]; rfl
theorem rhd_ok {b : Bytes} (h : hdE b = 0) : rhdV b = hdOk b := by rw [← hd_eq]; exact (hdV_ok h).1
theorem rhd_no {b : Bytes} (h : hdE b ≠ 0) : rhdV b = hdBad (hdE b) := by rw [← hd_eq]; exact hdV_no h
theorem ids_num {id : Int} {k : Nat} (h0 : 0 ≤ id) (h1 : id ≤ 1000000 + (k : Int)) (hk : k ≤ 7) : wrap64 (id + 1) = id + 1 := wrap_same (by unfold I64; omega)
set_option maxRecDepth 100000 in
set_option maxHeartbeats 1600000 in
theorem Orids_c (w : World) (A : Option Addr) (n c M : Nat) (img : Bytes) (g id : Int) (hv : Src w (.slice A n c) img) (hn : n ≤ 6000) (h0 : 0 ≤ id) (h1 : id ≤ 1000000) (hM : M ≤ 7) :
    Calls Tryd.prog 32 #[.slice A n c, .int .i64 g, .int .i64 id, .int .i64 (M : Nat)] w fun e w' => ∃ IA k ic, e = .returned (.slice IA k ic) ∧ w'.ownsRow w.heap.size 3 1 (.slice IA k ic) k (ci (idsD img g id M)) ∧ Only (w.heap.size ≤ ·) w w' := by
  obtain ⟨iN, hiN, hiN0, hiN1, hiN2⟩ := info_parts info_N
  have HIN := Lib.hid (And.intro hiN (And.intro hiN0 (And.intro hiN1 hiN2)))
  have HPG : Hid (∀ W x, Only (w.heap.size ≤ ·) w W → Calls Tryd.prog 14 #[.slice A n c, .int .i64 x] W fun e w' => ∃ v, e = .returned (.tuple #[v, .bool (pgOk img x)]) ∧ Src W v (pgB img x) ∧ W = w') := Lib.hid fun W x hW => rPage_c W A n c img x (hv.later hW) hn
  have HHD : Hid (∀ W v x, Src W v (pgB img x) → Calls Tryd.prog 31 #[v] W (Told W (rhdV (pgB img x)))) := Lib.hid fun W v x h => rHeadOf_c W v _ h (by have := pgB_len img x; omega)
  have HS : Hid (g = 3 → 0 ≤ id ∧ id ≤ 1000000 + ((0 : Nat) : Int)) := Lib.hid fun _ => ⟨h0, by omega⟩
  have HM := Lib.hid hM
  obtain ⟨full, hfull⟩ : ∃ l, l = idsD img g id M := ⟨_, rfl⟩
  have HF := Lib.hid hfull
  rw [← hfull]
  clear hfull hiN hiN0 hiN1 hiN2 hv h0 h1 hM
  go_enter Tryd.func32, Tryd.ntmps32
  go_wp2_with (fail)
  go_loopw [2, 9] (fun x q wr => ∃ (k : Nat) (cur : Int) (IA : Option Addr) (ic : Nat) (acc : List Int), x = .int .i64 cur ∧ q = .slice IA k ic ∧ k ≤ M ∧ Hid (wr.ownsRow w.heap.size 3 1 (.slice IA k ic) k (ci acc)) ∧ Hid (full = acc ++ idsD img g cur (M - k)) ∧ Hid (g = 3 → 0 ≤ cur ∧ cur ≤ 1000000 + (k : Int)) ∧ Hid (Only (w.heap.size ≤ ·) w wr)) (fun _ q _ => M - slLen q)
  case atStart => exact ⟨0, id, none, 0, [], rfl, rfl, Nat.zero_le _, Lib.hid (World.ownsRow_nil _ _ _ _), HF, HS, Lib.hid (Only.refl _ w)⟩
  case round =>
    obtain ⟨k, cur, IA, ic, acc, rfl, rfl, hkM, HIO, HFU, HSC, HO⟩ := hrel
    clear HF HS
    by_cases hlt : k < M
    · have hti : (k : Int) < (M : Int) := by omega
      have h7 := HM.out
      have HFU2 : Hid (full = (acc ++ [cur]) ++ (if g = 3 then idsD img g (cur + 1) (M - (k + 1)) else if pgOk img cur = true ∧ hdE (pgB img cur) = 0 then idsD img g (hdX (pgB img cur) : Nat) (M - (k + 1)) else [])) := Lib.hid (by
        rw [HFU.out, show M - k = (M - (k + 1)) + 1 by omega, idsD, List.append_assoc]
        rfl)
      by_cases hg : g = 3
      · obtain ⟨s0, s1⟩ := HSC.out hg
        have q1 := ids_num s0 s1 (Nat.le_trans hkM h7)
        have HFU3 : Hid (full = (acc ++ [cur]) ++ idsD img g (cur + 1) (M - (k + 1))) := Lib.hid (by rw [HFU2.out, if_pos hg])
        have HSC3 : Hid (g = 3 → 0 ≤ cur + 1 ∧ cur + 1 ≤ 1000000 + ((k + 1 : Nat) : Int)) := Lib.hid fun _ => by omega
        rw [← q1] at HFU3 HSC3
        clear HFU2 HFU HSC s0 s1 q1
        subst hg
        go_wp2_with (at_builtin; go_loud (have hz := (HO.out.alloc (fun _ h => h) (.cells #[.int .i64 cur] 3)).size; refine wpList_append_at rfl (.tmp 18) (.tmp 20) 28 rfl w.heap.size 3 iN zN0 1 8 Tryd.underlying28 HIN.out.1 HIN.out.2.1 HIN.out.2.2.1 HIN.out.2.2.2 (by rfl) (by omega) (.slice IA k ic) k (ci acc) rfl (HIO.out.alloc _) ⟨wr.heap.size, 0, none⟩ 1 1 [.int .i64 cur] rfl (by rfl) (one_cell wr 3 _) (by simp [Value.oneCell']) (by simp only [maxLen]; omega) (by omega) hz ?_; intro v' w' ho' hg' hat'; obtain ⟨g', c', rfl⟩ := ownsRow_succ ho'; have HIO' : Hid (w'.ownsRow w.heap.size 3 1 (.slice (some ⟨g', 0, none⟩) (k + 1) c') (k + 1) (ci (acc ++ [cur]))) := Lib.hid (by rw [ci_snoc]; exact ho'); have HO' : Hid (Only (w.heap.size ≤ ·) w w') := Lib.hid ((HO.out.alloc (fun _ h => h) _).grown hg' (fun _ h => h) (fun k hk => (World.ownsRow.lt HIO.out k hk).1)); clear ho' hg' hat' hz))
        go_roundw
        case rel => exact ⟨k + 1, _, _, _, acc ++ [cur], rfl, rfl, hlt, HIO', HFU3, Lib.hid fun _ => HSC3.out rfl, HO'⟩
        case measure => (simp [slLen] <;> omega)
      · have HSC3 : ∀ x : Int, Hid (g = 3 → 0 ≤ x ∧ x ≤ 1000000 + ((k + 1 : Nat) : Int)) := fun x => Lib.hid fun h => absurd h hg
        by_cases hok : pgOk img cur = true ∧ hdE (pgB img cur) = 0
        · have HFU3 : Hid (full = (acc ++ [cur]) ++ idsD img g (hdX (pgB img cur) : Nat) (M - (k + 1))) := Lib.hid (by rw [HFU2.out, if_neg hg, if_pos hok])
          have HPG2 : Hid (∀ W, Only (w.heap.size ≤ ·) w W → Calls Tryd.prog 14 #[.slice A n c, .int .i64 cur] W fun e w' => ∃ v, e = .returned (.tuple #[v, .bool true]) ∧ Src W v (pgB img cur) ∧ W = w') := Lib.hid fun W hW => by have := HPG.out W cur hW; rwa [hok.1] at this
          have HHD2 : Hid (∀ W v, Src W v (pgB img cur) → Calls Tryd.prog 31 #[v] W (Told W (hdOk (pgB img cur)))) := Lib.hid fun W v h => by have := HHD.out W v cur h; rwa [rhd_ok hok.2] at this
          obtain ⟨kk, hkk⟩ : ∃ x : Int, x = (hdK (pgB img cur) : Nat) := ⟨_, rfl⟩
          obtain ⟨gg, hgg⟩ : ∃ x : Int, x = (hdG (pgB img cur) : Nat) := ⟨_, rfl⟩
          obtain ⟨nn, hnn⟩ : ∃ x : Int, x = (hdN (pgB img cur) : Nat) := ⟨_, rfl⟩
          obtain ⟨xx, hxx⟩ : ∃ x : Int, x = (hdX (pgB img cur) : Nat) := ⟨_, rfl⟩
          unfold hdOk at HHD2
          rw [← hkk, ← hgg, ← hnn, ← hxx] at HHD2
          rw [← hxx] at HFU3
          clear HFU2 HFU HSC hok hkk hgg hnn hxx HPG HHD
          go_wp2_with (first | (go_at_call 14; go_loud ((with_reducible refine (HPG2.out _ HO'.out).mono ?_); rintro ee wp ⟨v, rfl, hv, rfl⟩; have HV := Lib.hid hv; clear hv)) | (go_at_call 31; go_loud ((with_reducible refine (HHD2.out _ _ HV.out).mono ?_); rintro ee wh ⟨rfl, ho⟩; (replace HIO' := Lib.hid (ids_keep HIO'.out ho fun k e => by have := (World.ownsRow.lt HIO'.out k e).2; omega)); (replace HO' := Lib.hid (on_new HO'.out ho)); have HI2 := Lib.hid (HIO'.out.alloc (.cells #[.int .i64 kk, .int .i64 gg, .int .i64 nn, .int .i64 xx] 64)); have HO2 := Lib.hid (HO'.out.alloc (fun _ h => h) (.cells #[.int .i64 kk, .int .i64 gg, .int .i64 nn, .int .i64 xx] 64)); clear ho)) | (at_builtin; go_loud (have hz := (HO.out.alloc (fun _ h => h) (.cells #[.int .i64 cur] 3)).size; refine wpList_append_at rfl (.tmp 18) (.tmp 20) 28 rfl w.heap.size 3 iN zN0 1 8 Tryd.underlying28 HIN.out.1 HIN.out.2.1 HIN.out.2.2.1 HIN.out.2.2.2 (by rfl) (by omega) (.slice IA k ic) k (ci acc) rfl (HIO.out.alloc _) ⟨wr.heap.size, 0, none⟩ 1 1 [.int .i64 cur] rfl (by rfl) (one_cell wr 3 _) (by simp [Value.oneCell']) (by simp only [maxLen]; omega) (by omega) hz ?_; intro v' w' ho' hg' hat'; obtain ⟨g', c', rfl⟩ := ownsRow_succ ho'; have HIO' : Hid (w'.ownsRow w.heap.size 3 1 (.slice (some ⟨g', 0, none⟩) (k + 1) c') (k + 1) (ci (acc ++ [cur]))) := Lib.hid (by rw [ci_snoc]; exact ho'); have HO' : Hid (Only (w.heap.size ≤ ·) w w') := Lib.hid ((HO.out.alloc (fun _ h => h) _).grown hg' (fun _ h => h) (fun k hk => (World.ownsRow.lt HIO.out k hk).1)); clear ho' hg' hat' hz)))
          go_roundw
          case rel => exact ⟨k + 1, xx, _, _, acc ++ [cur], rfl, rfl, hlt, HI2, HFU3, HSC3 xx, HO2⟩
          case measure => (simp [slLen] <;> omega)
        · have HFU3 : Hid (full = acc ++ [cur]) := Lib.hid (by rw [HFU2.out, if_neg hg, if_neg hok, List.append_nil])
          by_cases hp : pgOk img cur = true
          · have he : hdE (pgB img cur) ≠ 0 := fun h => hok ⟨hp, h⟩
            have HPG2 : Hid (∀ W, Only (w.heap.size ≤ ·) w W → Calls Tryd.prog 14 #[.slice A n c, .int .i64 cur] W fun e w' => ∃ v, e = .returned (.tuple #[v, .bool true]) ∧ Src W v (pgB img cur) ∧ W = w') := Lib.hid fun W hW => by have := HPG.out W cur hW; rwa [hp] at this
            obtain ⟨z, hz⟩ : ∃ z, z = hdE (pgB img cur) := ⟨_, rfl⟩
            have HHD2 : Hid (∀ W v, Src W v (pgB img cur) → Calls Tryd.prog 31 #[v] W (Told W (hdBad z))) := Lib.hid fun W v h => by have := HHD.out W v cur h; rwa [rhd_no he, ← hz] at this
            unfold hdBad at HHD2
            rw [← hz] at he
            clear HFU2 HFU HSC hok hp hz HPG HHD
            go_wp2_with (first | (go_at_call 14; go_loud ((with_reducible refine (HPG2.out _ HO'.out).mono ?_); rintro ee wp ⟨v, rfl, hv, rfl⟩; have HV := Lib.hid hv; clear hv)) | (go_at_call 31; go_loud ((with_reducible refine (HHD2.out _ _ HV.out).mono ?_); rintro ee wh ⟨rfl, ho⟩; (replace HIO' := Lib.hid (ids_keep HIO'.out ho fun k e => by have := (World.ownsRow.lt HIO'.out k e).2; omega)); (replace HO' := Lib.hid (on_new HO'.out ho)); have HI2 := Lib.hid (HIO'.out.alloc (.cells #[.int .i64 0, .int .i64 0, .int .i64 0, .int .i64 0] 64)); have HO2 := Lib.hid (HO'.out.alloc (fun _ h => h) (.cells #[.int .i64 0, .int .i64 0, .int .i64 0, .int .i64 0] 64)); clear ho)) | (at_builtin; go_loud (have hz := (HO.out.alloc (fun _ h => h) (.cells #[.int .i64 cur] 3)).size; refine wpList_append_at rfl (.tmp 18) (.tmp 20) 28 rfl w.heap.size 3 iN zN0 1 8 Tryd.underlying28 HIN.out.1 HIN.out.2.1 HIN.out.2.2.1 HIN.out.2.2.2 (by rfl) (by omega) (.slice IA k ic) k (ci acc) rfl (HIO.out.alloc _) ⟨wr.heap.size, 0, none⟩ 1 1 [.int .i64 cur] rfl (by rfl) (one_cell wr 3 _) (by simp [Value.oneCell']) (by simp only [maxLen]; omega) (by omega) hz ?_; intro v' w' ho' hg' hat'; obtain ⟨g', c', rfl⟩ := ownsRow_succ ho'; have HIO' : Hid (w'.ownsRow w.heap.size 3 1 (.slice (some ⟨g', 0, none⟩) (k + 1) c') (k + 1) (ci (acc ++ [cur]))) := Lib.hid (by rw [ci_snoc]; exact ho'); have HO' : Hid (Only (w.heap.size ≤ ·) w w') := Lib.hid ((HO.out.alloc (fun _ h => h) _).grown hg' (fun _ h => h) (fun k hk => (World.ownsRow.lt HIO.out k hk).1)); clear ho' hg' hat' hz)))
            go_ret
            rw [HFU3.out]
            exact ⟨_, _, _, rfl, HI2.out, HO2.out⟩
          · have HPG2 : Hid (∀ W, Only (w.heap.size ≤ ·) w W → Calls Tryd.prog 14 #[.slice A n c, .int .i64 cur] W fun e w' => ∃ v, e = .returned (.tuple #[v, .bool false]) ∧ Src W v (pgB img cur) ∧ W = w') := Lib.hid fun W hW => by have := HPG.out W cur hW; rwa [show pgOk img cur = false by simpa using hp] at this
            have HHD2 : Hid (∀ W v, Src W v (pgB img cur) → Calls Tryd.prog 31 #[v] W (Told W (hdBad 70))) := Lib.hid fun W v h => by have := HHD.out W v cur h; rwa [show rhdV (pgB img cur) = hdBad 70 by rw [show pgB img cur = [] by unfold pgB; rw [if_neg hp]]; kernel_rfl] at this
            unfold hdBad at HHD2
            clear HFU2 HFU HSC hok hp HPG HHD
            go_wp2_with (first | (go_at_call 14; go_loud ((with_reducible refine (HPG2.out _ HO'.out).mono ?_); rintro ee wp ⟨v, rfl, hv, rfl⟩; have HV := Lib.hid hv; clear hv)) | (go_at_call 31; go_loud ((with_reducible refine (HHD2.out _ _ HV.out).mono ?_); rintro ee wh ⟨rfl, ho⟩; (replace HIO' := Lib.hid (ids_keep HIO'.out ho fun k e => by have := (World.ownsRow.lt HIO'.out k e).2; omega)); (replace HO' := Lib.hid (on_new HO'.out ho)); have HI2 := Lib.hid (HIO'.out.alloc (.cells #[.int .i64 0, .int .i64 0, .int .i64 0, .int .i64 0] 64)); have HO2 := Lib.hid (HO'.out.alloc (fun _ h => h) (.cells #[.int .i64 0, .int .i64 0, .int .i64 0, .int .i64 0] 64)); clear ho)) | (at_builtin; go_loud (have hz := (HO.out.alloc (fun _ h => h) (.cells #[.int .i64 cur] 3)).size; refine wpList_append_at rfl (.tmp 18) (.tmp 20) 28 rfl w.heap.size 3 iN zN0 1 8 Tryd.underlying28 HIN.out.1 HIN.out.2.1 HIN.out.2.2.1 HIN.out.2.2.2 (by rfl) (by omega) (.slice IA k ic) k (ci acc) rfl (HIO.out.alloc _) ⟨wr.heap.size, 0, none⟩ 1 1 [.int .i64 cur] rfl (by rfl) (one_cell wr 3 _) (by simp [Value.oneCell']) (by simp only [maxLen]; omega) (by omega) hz ?_; intro v' w' ho' hg' hat'; obtain ⟨g', c', rfl⟩ := ownsRow_succ ho'; have HIO' : Hid (w'.ownsRow w.heap.size 3 1 (.slice (some ⟨g', 0, none⟩) (k + 1) c') (k + 1) (ci (acc ++ [cur]))) := Lib.hid (by rw [ci_snoc]; exact ho'); have HO' : Hid (Only (w.heap.size ≤ ·) w w') := Lib.hid ((HO.out.alloc (fun _ h => h) _).grown hg' (fun _ h => h) (fun k hk => (World.ownsRow.lt HIO.out k hk).1)); clear ho' hg' hat' hz)))
            go_ret
            rw [HFU3.out]
            exact ⟨_, _, _, rfl, HI2.out, HO2.out⟩
    · obtain rfl : M = k := by omega
      have HFE : Hid (acc = full) := Lib.hid (by rw [HFU.out, Nat.sub_self]; simp [idsD])
      clear hlt hkM
      go_wp2
      go_ret
      rw [← HFE.out]
      exact ⟨_, _, _, rfl, HIO.out, HO.out⟩
end Go.Proofs.YtbgnfocfnjlabaaDoor

/-
  The document's May.
-/
set_option linter.unusedVariables false
namespace Go.Proofs.YtbgnfocfnjlabaaDoor
open Go.RowKit

/-- May the k-th number stand there, as the document says it? -/
def goodD (g : Int) (l : List Int) (k : Nat) : Bool := match l[k]? with
  | some x => isId x && !decide (x ∈ l.take k) && (decide (g ≠ 3) || decide (x = l.getD 0 0 + k))
  | none => true
def mayD (g : Int) (l : List Int) : Bool := (List.range l.length).all (goodD g l)
theorem mayD_iff (g : Int) (l : List Int) : mayD g l = true ↔ ∀ k, k < l.length → goodD g l k = true := by simp [mayD]
theorem mayD_no {g : Int} {l : List Int} {k : Nat} (hk : k < l.length) (h : goodD g l k = false) : mayD g l = false := by
  rw [← Bool.not_eq_true]
  intro e
  have := (mayD_iff g l).1 e k hk
  rw [h] at this
  cases this
theorem mayD_eq {g : Int} (hg : g = 1 ∨ g = 2 ∨ g = 3) (l : List Int) : mayD g l = mayP g l := by
  have hs : sgl g = decide (g ≠ 3) := by unfold sgl; rw [decide_eq_decide]; omega
  unfold mayD mayP
  congr 1
  funext k
  unfold goodD goodAt
  rw [hs]
  cases l[k]? <;> rfl
theorem my_mem {l : List Int} {k : Nat} {x : Int} (hk : k ≤ l.length) : (x ∈ l.take k) ↔ ∃ j, j < k ∧ l[j]? = some x := by
  constructor
  · intro h
    obtain ⟨j, hj⟩ := List.getElem?_of_mem h
    rw [List.getElem?_take] at hj
    split at hj
    · exact ⟨j, by assumption, hj⟩
    · cases hj
  · rintro ⟨j, hj, h⟩
    exact List.mem_of_getElem? (i := j) (by rw [List.getElem?_take, if_pos hj]; exact h)
theorem my_sum {y : Int} {k : Nat} (h0 : 2 ≤ y) (h1 : y < 16384) (hk : k ≤ 100000) : IntKind.i64.wrap (y + (k : Int)) = y + (k : Int) := IntWalk.i64_in _ (by omega)
set_option maxRecDepth 100000 in
set_option maxHeartbeats 3200000 in
theorem OrMay_c (w : World) (g : Int) (v : Value) (l : List Int) (many : Int) (h : Ints w v l) (hn : l.length ≤ 1000) :
    Calls Tryd.prog 58 #[.int .i64 g, v, .int .i64 many] w (Told w (.bool (mayD g l && decide (0 < many ∧ many = (l.length : Int))))) := by
  obtain ⟨A, c, rfl, hr, hA, hc, hm⟩ := h
  obtain ⟨n, hne⟩ : ∃ n, n = l.length := ⟨_, rfl⟩
  have HS : Hid (Ints w (.slice A n c) l) := Lib.hid (by rw [hne]; exact ⟨A, c, rfl, hr, hA, hc, hm⟩)
  rw [← hne] at hn hc ⊢
  have HL := Lib.hid hne
  obtain ⟨res, hres⟩ : ∃ r, r = (mayD g l && decide (0 < many ∧ many = (n : Int))) := ⟨_, rfl⟩
  rw [← hres]
  have HRS := Lib.hid hres
  clear hr hA hne hres
  go_enter Tryd.func58, Tryd.ntmps58
  go_wp2
  go_loopw [7] (fun i wr => ∃ (k : Nat), k ≤ n ∧ i = .int .i64 k ∧ Hid (∀ j, j < k → goodD g l j = true) ∧ Hid (Only (w.heap.size ≤ ·) w wr)) (fun i _ => n - (intOf i).toNat)
  case atStart => exact ⟨0, Nat.zero_le _, rfl, Lib.hid fun j hj => absurd hj (Nat.not_lt_zero _), Lib.hid (Only.refl _ _)⟩
  case round =>
    obtain ⟨k, hk, rfl, HK, HO⟩ := hrel
    by_cases hlt : k < n
    · obtain ⟨b, off, x, rfl, hb, hy, hcell⟩ := (HS.out.later HO.out).at_ hlt
      obtain ⟨b0, off0, y0, e0, hb0, hy0, hcell0⟩ := (HS.out.later HO.out).at_ (k := 0) (by omega)
      cases e0
      simp only [Nat.add_zero] at hcell0
      have hk0 : (0 : Int) ≤ (k : Int) := by omega
      have hkn : (k : Int) < (n : Int) := by omega
      have h0n : (0 : Int) < (n : Int) := by omega
      have h0n' : 0 < n := by omega
      have hlt' := hlt
      have HGA : Hid (goodD g l k = (isId x && !decide (x ∈ l.take k) && (decide (g ≠ 3) || decide (x = y0 + k)))) := Lib.hid (by unfold goodD; rw [hy, show l.getD 0 0 = y0 by rw [List.getD_eq_getElem?_getD, hy0]; rfl])
      have HN := Lib.hid (fun h => mayD_no (g := g) (l := l) (k := k) (by rw [← HL.out]; exact hlt) h)
      have HY0 : Hid (isId x = true → 2 ≤ y0 ∧ y0 < 16384) := Lib.hid fun h => by
        have h0 : isId y0 = true := by
          rcases Nat.eq_zero_or_pos k with e | e
          · subst e
            rw [hy] at hy0
            cases hy0
            exact h
          · have := HK.out 0 e
            unfold goodD at this
            rw [hy0] at this
            simp only [Bool.and_eq_true] at this
            exact this.1.1
        simpa [isId] using h0
      have HYK := Lib.hid hy
      clear hy hy0
      by_cases c1 : x < 2
      · have HF := Lib.hid (HN.out (by rw [HGA.out, show isId x = false from decide_eq_false (by omega)]; rfl))
        have d1 : decide (x < 2) = true := decide_eq_true c1
        go_upto_region 4 with (fail)
        refine wp_region_list (B := [false, false, false, false, false, false, false, false, false, false, false, false, false, false, false, false, false, false, false, false, false, false, false, false, false, false, false, false]) (S := (fun W => W.cell? ⟨b, off + k, none⟩ = some (.int .i64 x) ∧ W.cell? ⟨b, off, none⟩ = some (.int .i64 y0))) (by kernel_rfl) (by kernel_rfl) (by kernel_rfl) ⟨hcell, hcell0⟩ (fun hsel hHeld => ?_)
        refine oneA 0 15 hsel (h := ?_)
        simp only [Act.put, List.setIfInBounds_toArray, List.set_cons_zero, List.set_cons_succ]
        refine oneA 1 16 hsel (h := ?_)
        simp only [Act.put, List.setIfInBounds_toArray, List.set_cons_zero, List.set_cons_succ]
        refine oneA 2 17 hsel (h := ?_)
        simp only [Act.put, List.setIfInBounds_toArray, List.set_cons_zero, List.set_cons_succ]
        refine oneA 3 18 hsel (h := ?_)
        simp only [Act.put, List.setIfInBounds_toArray, List.set_cons_zero, List.set_cons_succ]
        refine oneA 4 19 hsel (h := ?_)
        simp only [Act.put, List.setIfInBounds_toArray, List.set_cons_zero, List.set_cons_succ]
        refine oneA 5 20 hsel (h := ?_)
        simp only [Act.put, List.setIfInBounds_toArray, List.set_cons_zero, List.set_cons_succ]
        refine take_skipL (i := 6) (d := 21) (oi := ?_) ?_ hsel (by kernel_rfl) (by kernel_rfl) (fun _ _ _ h => h) ?_ ?_ (by assumption) ?_
        case refine_2 => (simp only [List.getElem?_cons_succ, List.getElem?_cons_zero]; rfl)
        case refine_3 => rfl
        case refine_4 => rfl
        simp only [Act.put, List.setIfInBounds_toArray, List.set_cons_zero, List.set_cons_succ]
        refine take_skipL (i := 7) (d := 22) (oi := ?_) ?_ hsel (by kernel_rfl) (by kernel_rfl) (fun _ _ _ h => h) ?_ ?_ (by assumption) ?_
        case refine_2 => (simp only [List.getElem?_cons_succ, List.getElem?_cons_zero]; rfl)
        case refine_3 => rfl
        case refine_4 => rfl
        simp only [Act.put, List.setIfInBounds_toArray, List.set_cons_zero, List.set_cons_succ]
        refine take_skipL (i := 8) (d := 23) (oi := ?_) ?_ hsel (by kernel_rfl) (by kernel_rfl) (fun _ _ _ h => h) ?_ ?_ (by assumption) ?_
        case refine_2 => (simp only [List.getElem?_cons_succ, List.getElem?_cons_zero]; rfl)
        case refine_3 => rfl
        case refine_4 => rfl
        simp only [Act.put, List.setIfInBounds_toArray, List.set_cons_zero, List.set_cons_succ]
        refine take_skipL (i := 9) (d := 24) (oi := ?_) ?_ hsel (by kernel_rfl) (by kernel_rfl) (fun _ _ _ h => h) ?_ ?_ (by assumption) ?_
        case refine_2 => (simp only [List.getElem?_cons_succ, List.getElem?_cons_zero]; rfl)
        case refine_3 => rfl
        case refine_4 => rfl
        simp only [Act.put, List.setIfInBounds_toArray, List.set_cons_zero, List.set_cons_succ]
        refine take_skipL (i := 10) (d := 25) (oi := ?_) ?_ hsel (by kernel_rfl) (by kernel_rfl) (fun _ _ _ h => h) ?_ ?_ (by assumption) ?_
        case refine_2 => (simp only [List.getElem?_cons_succ, List.getElem?_cons_zero]; rfl)
        case refine_3 => rfl
        case refine_4 => rfl
        simp only [Act.put, List.setIfInBounds_toArray, List.set_cons_zero, List.set_cons_succ]
        refine oneA 11 26 hsel (h := ?_)
        simp only [Act.put, List.setIfInBounds_toArray, List.set_cons_zero, List.set_cons_succ]
        refine oneA 12 27 hsel (h := ?_)
        simp only [Act.put, List.setIfInBounds_toArray, List.set_cons_zero, List.set_cons_succ]
        refine take_skipL (i := 13) (d := 28) (oi := ?_) ?_ hsel (by kernel_rfl) (by kernel_rfl) (fun _ _ _ h => h) ?_ ?_ (by assumption) ?_
        case refine_2 => (simp only [List.getElem?_cons_succ, List.getElem?_cons_zero]; rfl)
        case refine_3 => rfl
        case refine_4 => rfl
        simp only [Act.put, List.setIfInBounds_toArray, List.set_cons_zero, List.set_cons_succ]
        refine take_skipL (i := 14) (d := 29) (oi := ?_) ?_ hsel (by kernel_rfl) (by kernel_rfl) (fun _ _ _ h => h) ?_ ?_ (by assumption) ?_
        case refine_2 => (simp only [List.getElem?_cons_succ, List.getElem?_cons_zero]; rfl)
        case refine_3 => rfl
        case refine_4 => rfl
        simp only [Act.put, List.setIfInBounds_toArray, List.set_cons_zero, List.set_cons_succ]
        refine take_skipL (i := 15) (d := 30) (oi := ?_) ?_ hsel (by kernel_rfl) (by kernel_rfl) (fun _ _ _ h => h) ?_ ?_ (by assumption) ?_
        case refine_2 => (simp only [List.getElem?_cons_succ, List.getElem?_cons_zero]; rfl)
        case refine_3 => rfl
        case refine_4 => rfl
        simp only [Act.put, List.setIfInBounds_toArray, List.set_cons_zero, List.set_cons_succ]
        refine take_skipL (i := 16) (d := 31) (oi := ?_) ?_ hsel (by kernel_rfl) (by kernel_rfl) (fun _ _ _ h => h) ?_ ?_ (by assumption) ?_
        case refine_2 => (simp only [List.getElem?_cons_succ, List.getElem?_cons_zero]; rfl)
        case refine_3 => rfl
        case refine_4 => rfl
        simp only [Act.put, List.setIfInBounds_toArray, List.set_cons_zero, List.set_cons_succ]
        refine take_skipL (i := 17) (d := 32) (oi := ?_) ?_ hsel (by kernel_rfl) (by kernel_rfl) (fun _ _ _ h => h) ?_ ?_ (by assumption) ?_
        case refine_2 => (simp only [List.getElem?_cons_succ, List.getElem?_cons_zero]; rfl)
        case refine_3 => rfl
        case refine_4 => rfl
        simp only [Act.put, List.setIfInBounds_toArray, List.set_cons_zero, List.set_cons_succ]
        refine take_skipL (i := 18) (d := 33) (oi := ?_) ?_ hsel (by kernel_rfl) (by kernel_rfl) (fun _ _ _ h => h) ?_ ?_ (by assumption) ?_
        case refine_2 => (simp only [List.getElem?_cons_succ, List.getElem?_cons_zero]; rfl)
        case refine_3 => rfl
        case refine_4 => rfl
        simp only [Act.put, List.setIfInBounds_toArray, List.set_cons_zero, List.set_cons_succ]
        refine take_skipL (i := 19) (d := 34) (oi := ?_) ?_ hsel (by kernel_rfl) (by kernel_rfl) (fun _ _ _ h => h) ?_ ?_ (by assumption) ?_
        case refine_2 => (simp only [List.getElem?_cons_succ, List.getElem?_cons_zero]; rfl)
        case refine_3 => rfl
        case refine_4 => rfl
        simp only [Act.put, List.setIfInBounds_toArray, List.set_cons_zero, List.set_cons_succ]
        refine take_skipL (i := 20) (d := 35) (oi := ?_) ?_ hsel (by kernel_rfl) (by kernel_rfl) (fun _ _ _ h => h) ?_ ?_ (by assumption) ?_
        case refine_2 => (simp only [List.getElem?_cons_succ, List.getElem?_cons_zero]; rfl)
        case refine_3 => rfl
        case refine_4 => rfl
        simp only [Act.put, List.setIfInBounds_toArray, List.set_cons_zero, List.set_cons_succ]
        refine take_skipL (i := 21) (d := 36) (oi := ?_) ?_ hsel (by kernel_rfl) (by kernel_rfl) (fun _ _ _ h => h) ?_ ?_ (by assumption) ?_
        case refine_2 => (simp only [List.getElem?_cons_succ, List.getElem?_cons_zero]; rfl)
        case refine_3 => rfl
        case refine_4 => rfl
        simp only [Act.put, List.setIfInBounds_toArray, List.set_cons_zero, List.set_cons_succ]
        refine take_skipL (i := 22) (d := 37) (oi := ?_) ?_ hsel (by kernel_rfl) (by kernel_rfl) (fun _ _ _ h => h) ?_ ?_ (by assumption) ?_
        case refine_2 => (simp only [List.getElem?_cons_succ, List.getElem?_cons_zero]; rfl)
        case refine_3 => rfl
        case refine_4 => rfl
        simp only [Act.put, List.setIfInBounds_toArray, List.set_cons_zero, List.set_cons_succ]
        refine take_skipL (i := 23) (d := 38) (oi := ?_) ?_ hsel (by kernel_rfl) (by kernel_rfl) (fun _ _ _ h => h) ?_ ?_ (by assumption) ?_
        case refine_2 => (simp only [List.getElem?_cons_succ, List.getElem?_cons_zero]; rfl)
        case refine_3 => rfl
        case refine_4 => rfl
        simp only [Act.put, List.setIfInBounds_toArray, List.set_cons_zero, List.set_cons_succ]
        refine take_skipL (i := 24) (d := 39) (oi := ?_) ?_ hsel (by kernel_rfl) (by kernel_rfl) (fun _ _ _ h => h) ?_ ?_ (by assumption) ?_
        case refine_2 => (simp only [List.getElem?_cons_succ, List.getElem?_cons_zero]; rfl)
        case refine_3 => rfl
        case refine_4 => rfl
        simp only [Act.put, List.setIfInBounds_toArray, List.set_cons_zero, List.set_cons_succ]
        refine take_skipL (i := 25) (d := 40) (oi := ?_) ?_ hsel (by kernel_rfl) (by kernel_rfl) (fun _ _ _ h => h) ?_ ?_ (by assumption) ?_
        case refine_2 => (simp only [List.getElem?_cons_succ, List.getElem?_cons_zero]; rfl)
        case refine_3 => rfl
        case refine_4 => rfl
        simp only [Act.put, List.setIfInBounds_toArray, List.set_cons_zero, List.set_cons_succ]
        refine take_skipL (i := 26) (d := 41) (oi := ?_) ?_ hsel (by kernel_rfl) (by kernel_rfl) (fun _ _ _ h => h) ?_ ?_ (by assumption) ?_
        case refine_2 => (simp only [List.getElem?_cons_succ, List.getElem?_cons_zero]; rfl)
        case refine_3 => rfl
        case refine_4 => rfl
        simp only [Act.put, List.setIfInBounds_toArray, List.set_cons_zero, List.set_cons_succ]
        refine oneA 27 42 hsel (h := ?_)
        simp only [Act.put, List.setIfInBounds_toArray, List.set_cons_zero, List.set_cons_succ]
        refine wpAnyL_done (by kernel_rfl) (by kernel_rfl) ?_ _
        clear hsel hHeld
        go_wp2
        go_ret
        exact ⟨by rw [HRS.out, HF.out]; rfl, HO.out.drew⟩
      by_cases c2 : 16383 < x
      · have HF := Lib.hid (HN.out (by rw [HGA.out, show isId x = false from decide_eq_false (by omega)]; rfl))
        have d1 : decide (x < 2) = false := decide_eq_false c1
        have d2 : decide (16383 < x) = true := decide_eq_true c2
        go_upto_region 4 with (fail)
        refine wp_region_list (B := [false, false, false, false, false, false, false, false, false, false, false, false, false, false, false, false, false, false, false, false, false, false, false, false, false, false, false, false]) (S := (fun W => W.cell? ⟨b, off + k, none⟩ = some (.int .i64 x) ∧ W.cell? ⟨b, off, none⟩ = some (.int .i64 y0))) (by kernel_rfl) (by kernel_rfl) (by kernel_rfl) ⟨hcell, hcell0⟩ (fun hsel hHeld => ?_)
        refine oneA 0 15 hsel (h := ?_)
        simp only [Act.put, List.setIfInBounds_toArray, List.set_cons_zero, List.set_cons_succ]
        refine oneA 1 16 hsel (h := ?_)
        simp only [Act.put, List.setIfInBounds_toArray, List.set_cons_zero, List.set_cons_succ]
        refine oneA 2 17 hsel (h := ?_)
        simp only [Act.put, List.setIfInBounds_toArray, List.set_cons_zero, List.set_cons_succ]
        refine oneA 3 18 hsel (h := ?_)
        simp only [Act.put, List.setIfInBounds_toArray, List.set_cons_zero, List.set_cons_succ]
        refine oneA 4 19 hsel (h := ?_)
        simp only [Act.put, List.setIfInBounds_toArray, List.set_cons_zero, List.set_cons_succ]
        refine oneA 5 20 hsel (h := ?_)
        simp only [Act.put, List.setIfInBounds_toArray, List.set_cons_zero, List.set_cons_succ]
        refine oneA 6 21 hsel (h := ?_)
        simp only [Act.put, List.setIfInBounds_toArray, List.set_cons_zero, List.set_cons_succ]
        refine oneA 7 22 hsel (h := ?_)
        simp only [Act.put, List.setIfInBounds_toArray, List.set_cons_zero, List.set_cons_succ]
        refine oneA 8 23 hsel (h := ?_)
        simp only [Act.put, List.setIfInBounds_toArray, List.set_cons_zero, List.set_cons_succ]
        refine oneA 9 24 hsel (h := ?_)
        simp only [Act.put, List.setIfInBounds_toArray, List.set_cons_zero, List.set_cons_succ]
        refine oneA 10 25 hsel (h := ?_)
        simp only [Act.put, List.setIfInBounds_toArray, List.set_cons_zero, List.set_cons_succ]
        refine oneA 11 26 hsel (h := ?_)
        simp only [Act.put, List.setIfInBounds_toArray, List.set_cons_zero, List.set_cons_succ]
        refine oneA 12 27 hsel (h := ?_)
        simp only [Act.put, List.setIfInBounds_toArray, List.set_cons_zero, List.set_cons_succ]
        refine take_skipL (i := 13) (d := 28) (oi := ?_) ?_ hsel (by kernel_rfl) (by kernel_rfl) (fun _ _ _ h => h) ?_ ?_ (by assumption) ?_
        case refine_2 => (simp only [List.getElem?_cons_succ, List.getElem?_cons_zero]; rfl)
        case refine_3 => rfl
        case refine_4 => rfl
        simp only [Act.put, List.setIfInBounds_toArray, List.set_cons_zero, List.set_cons_succ]
        refine take_skipL (i := 14) (d := 29) (oi := ?_) ?_ hsel (by kernel_rfl) (by kernel_rfl) (fun _ _ _ h => h) ?_ ?_ (by assumption) ?_
        case refine_2 => (simp only [List.getElem?_cons_succ, List.getElem?_cons_zero]; rfl)
        case refine_3 => rfl
        case refine_4 => rfl
        simp only [Act.put, List.setIfInBounds_toArray, List.set_cons_zero, List.set_cons_succ]
        refine take_skipL (i := 15) (d := 30) (oi := ?_) ?_ hsel (by kernel_rfl) (by kernel_rfl) (fun _ _ _ h => h) ?_ ?_ (by assumption) ?_
        case refine_2 => (simp only [List.getElem?_cons_succ, List.getElem?_cons_zero]; rfl)
        case refine_3 => rfl
        case refine_4 => rfl
        simp only [Act.put, List.setIfInBounds_toArray, List.set_cons_zero, List.set_cons_succ]
        refine take_skipL (i := 16) (d := 31) (oi := ?_) ?_ hsel (by kernel_rfl) (by kernel_rfl) (fun _ _ _ h => h) ?_ ?_ (by assumption) ?_
        case refine_2 => (simp only [List.getElem?_cons_succ, List.getElem?_cons_zero]; rfl)
        case refine_3 => rfl
        case refine_4 => rfl
        simp only [Act.put, List.setIfInBounds_toArray, List.set_cons_zero, List.set_cons_succ]
        refine take_skipL (i := 17) (d := 32) (oi := ?_) ?_ hsel (by kernel_rfl) (by kernel_rfl) (fun _ _ _ h => h) ?_ ?_ (by assumption) ?_
        case refine_2 => (simp only [List.getElem?_cons_succ, List.getElem?_cons_zero]; rfl)
        case refine_3 => rfl
        case refine_4 => rfl
        simp only [Act.put, List.setIfInBounds_toArray, List.set_cons_zero, List.set_cons_succ]
        refine take_skipL (i := 18) (d := 33) (oi := ?_) ?_ hsel (by kernel_rfl) (by kernel_rfl) (fun _ _ _ h => h) ?_ ?_ (by assumption) ?_
        case refine_2 => (simp only [List.getElem?_cons_succ, List.getElem?_cons_zero]; rfl)
        case refine_3 => rfl
        case refine_4 => rfl
        simp only [Act.put, List.setIfInBounds_toArray, List.set_cons_zero, List.set_cons_succ]
        refine take_skipL (i := 19) (d := 34) (oi := ?_) ?_ hsel (by kernel_rfl) (by kernel_rfl) (fun _ _ _ h => h) ?_ ?_ (by assumption) ?_
        case refine_2 => (simp only [List.getElem?_cons_succ, List.getElem?_cons_zero]; rfl)
        case refine_3 => rfl
        case refine_4 => rfl
        simp only [Act.put, List.setIfInBounds_toArray, List.set_cons_zero, List.set_cons_succ]
        refine take_skipL (i := 20) (d := 35) (oi := ?_) ?_ hsel (by kernel_rfl) (by kernel_rfl) (fun _ _ _ h => h) ?_ ?_ (by assumption) ?_
        case refine_2 => (simp only [List.getElem?_cons_succ, List.getElem?_cons_zero]; rfl)
        case refine_3 => rfl
        case refine_4 => rfl
        simp only [Act.put, List.setIfInBounds_toArray, List.set_cons_zero, List.set_cons_succ]
        refine take_skipL (i := 21) (d := 36) (oi := ?_) ?_ hsel (by kernel_rfl) (by kernel_rfl) (fun _ _ _ h => h) ?_ ?_ (by assumption) ?_
        case refine_2 => (simp only [List.getElem?_cons_succ, List.getElem?_cons_zero]; rfl)
        case refine_3 => rfl
        case refine_4 => rfl
        simp only [Act.put, List.setIfInBounds_toArray, List.set_cons_zero, List.set_cons_succ]
        refine take_skipL (i := 22) (d := 37) (oi := ?_) ?_ hsel (by kernel_rfl) (by kernel_rfl) (fun _ _ _ h => h) ?_ ?_ (by assumption) ?_
        case refine_2 => (simp only [List.getElem?_cons_succ, List.getElem?_cons_zero]; rfl)
        case refine_3 => rfl
        case refine_4 => rfl
        simp only [Act.put, List.setIfInBounds_toArray, List.set_cons_zero, List.set_cons_succ]
        refine take_skipL (i := 23) (d := 38) (oi := ?_) ?_ hsel (by kernel_rfl) (by kernel_rfl) (fun _ _ _ h => h) ?_ ?_ (by assumption) ?_
        case refine_2 => (simp only [List.getElem?_cons_succ, List.getElem?_cons_zero]; rfl)
        case refine_3 => rfl
        case refine_4 => rfl
        simp only [Act.put, List.setIfInBounds_toArray, List.set_cons_zero, List.set_cons_succ]
        refine take_skipL (i := 24) (d := 39) (oi := ?_) ?_ hsel (by kernel_rfl) (by kernel_rfl) (fun _ _ _ h => h) ?_ ?_ (by assumption) ?_
        case refine_2 => (simp only [List.getElem?_cons_succ, List.getElem?_cons_zero]; rfl)
        case refine_3 => rfl
        case refine_4 => rfl
        simp only [Act.put, List.setIfInBounds_toArray, List.set_cons_zero, List.set_cons_succ]
        refine take_skipL (i := 25) (d := 40) (oi := ?_) ?_ hsel (by kernel_rfl) (by kernel_rfl) (fun _ _ _ h => h) ?_ ?_ (by assumption) ?_
        case refine_2 => (simp only [List.getElem?_cons_succ, List.getElem?_cons_zero]; rfl)
        case refine_3 => rfl
        case refine_4 => rfl
        simp only [Act.put, List.setIfInBounds_toArray, List.set_cons_zero, List.set_cons_succ]
        refine take_skipL (i := 26) (d := 41) (oi := ?_) ?_ hsel (by kernel_rfl) (by kernel_rfl) (fun _ _ _ h => h) ?_ ?_ (by assumption) ?_
        case refine_2 => (simp only [List.getElem?_cons_succ, List.getElem?_cons_zero]; rfl)
        case refine_3 => rfl
        case refine_4 => rfl
        simp only [Act.put, List.setIfInBounds_toArray, List.set_cons_zero, List.set_cons_succ]
        refine oneA 27 42 hsel (h := ?_)
        simp only [Act.put, List.setIfInBounds_toArray, List.set_cons_zero, List.set_cons_succ]
        refine wpAnyL_done (by kernel_rfl) (by kernel_rfl) ?_ _
        clear hsel hHeld
        go_wp2
        go_ret
        exact ⟨by rw [HRS.out, HF.out]; rfl, HO.out.drew⟩
      have HID : Hid (isId x = true) := Lib.hid (decide_eq_true (by omega))
      have d1 : decide (x < 2) = false := decide_eq_false c1
      have d2 : decide (16383 < x) = false := decide_eq_false c2
      obtain ⟨y1, y2⟩ := HY0.out HID.out
      have d5 := my_sum y1 y2 (Nat.le_trans hk (Nat.le_trans hn (by decide)))
      by_cases c3 : g = 3 ∧ x ≠ y0 + (k : Int)
      · have HF := Lib.hid (HN.out (by rw [HGA.out, show decide (g ≠ 3) = false from decide_eq_false (by simpa using c3.1), show decide (x = y0 + (k : Int)) = false from decide_eq_false c3.2]; simp))
        obtain ⟨rfl, c4⟩ := c3
        have d4 : decide (x = y0 + (k : Int)) = false := decide_eq_false c4
        have d6 : (x == y0 + (k : Int)) = false := by simpa using c4
        clear y1 y2
        go_upto_region 4 with (fail)
        refine wp_region_list (B := [false, false, false, false, false, false, false, false, false, false, false, false, false, false, false, false, false, false, false, false, false, false, false, false, false, false, false, false]) (S := (fun W => W.cell? ⟨b, off + k, none⟩ = some (.int .i64 x) ∧ W.cell? ⟨b, off, none⟩ = some (.int .i64 y0))) (by kernel_rfl) (by kernel_rfl) (by kernel_rfl) ⟨hcell, hcell0⟩ (fun hsel hHeld => ?_)
        refine oneA 0 15 hsel (h := ?_)
        simp only [Act.put, List.setIfInBounds_toArray, List.set_cons_zero, List.set_cons_succ]
        refine oneA 1 16 hsel (h := ?_)
        simp only [Act.put, List.setIfInBounds_toArray, List.set_cons_zero, List.set_cons_succ]
        refine oneA 2 17 hsel (h := ?_)
        simp only [Act.put, List.setIfInBounds_toArray, List.set_cons_zero, List.set_cons_succ]
        refine oneA 3 18 hsel (h := ?_)
        simp only [Act.put, List.setIfInBounds_toArray, List.set_cons_zero, List.set_cons_succ]
        refine oneA 4 19 hsel (h := ?_)
        simp only [Act.put, List.setIfInBounds_toArray, List.set_cons_zero, List.set_cons_succ]
        refine oneA 5 20 hsel (h := ?_)
        simp only [Act.put, List.setIfInBounds_toArray, List.set_cons_zero, List.set_cons_succ]
        refine oneA 6 21 hsel (h := ?_)
        simp only [Act.put, List.setIfInBounds_toArray, List.set_cons_zero, List.set_cons_succ]
        refine oneA 7 22 hsel (h := ?_)
        simp only [Act.put, List.setIfInBounds_toArray, List.set_cons_zero, List.set_cons_succ]
        refine oneA 8 23 hsel (h := ?_)
        simp only [Act.put, List.setIfInBounds_toArray, List.set_cons_zero, List.set_cons_succ]
        refine oneA 9 24 hsel (h := ?_)
        simp only [Act.put, List.setIfInBounds_toArray, List.set_cons_zero, List.set_cons_succ]
        refine oneA 10 25 hsel (h := ?_)
        simp only [Act.put, List.setIfInBounds_toArray, List.set_cons_zero, List.set_cons_succ]
        refine oneA 11 26 hsel (h := ?_)
        simp only [Act.put, List.setIfInBounds_toArray, List.set_cons_zero, List.set_cons_succ]
        refine oneA 12 27 hsel (h := ?_)
        simp only [Act.put, List.setIfInBounds_toArray, List.set_cons_zero, List.set_cons_succ]
        refine oneA 13 28 hsel (h := ?_)
        simp only [Act.put, List.setIfInBounds_toArray, List.set_cons_zero, List.set_cons_succ]
        refine oneA 14 29 hsel (h := ?_)
        simp only [Act.put, List.setIfInBounds_toArray, List.set_cons_zero, List.set_cons_succ]
        refine oneA 15 30 hsel (h := ?_)
        simp only [Act.put, List.setIfInBounds_toArray, List.set_cons_zero, List.set_cons_succ]
        refine oneA 16 31 hsel (h := ?_)
        simp only [Act.put, List.setIfInBounds_toArray, List.set_cons_zero, List.set_cons_succ]
        refine oneA 17 32 hsel (h := ?_)
        simp only [Act.put, List.setIfInBounds_toArray, List.set_cons_zero, List.set_cons_succ]
        refine oneA 18 33 hsel (h := ?_)
        simp only [Act.put, List.setIfInBounds_toArray, List.set_cons_zero, List.set_cons_succ]
        refine oneA 19 34 hsel (h := ?_)
        simp only [Act.put, List.setIfInBounds_toArray, List.set_cons_zero, List.set_cons_succ]
        refine oneA 20 35 hsel (h := ?_)
        simp only [Act.put, List.setIfInBounds_toArray, List.set_cons_zero, List.set_cons_succ]
        refine oneA 21 36 hsel (h := ?_)
        simp only [Act.put, List.setIfInBounds_toArray, List.set_cons_zero, List.set_cons_succ]
        refine oneA 22 37 hsel (h := ?_)
        simp only [Act.put, List.setIfInBounds_toArray, List.set_cons_zero, List.set_cons_succ]
        refine oneA 23 38 hsel (h := ?_)
        simp only [Act.put, List.setIfInBounds_toArray, List.set_cons_zero, List.set_cons_succ]
        refine oneA 24 39 hsel (h := ?_)
        simp only [Act.put, List.setIfInBounds_toArray, List.set_cons_zero, List.set_cons_succ]
        refine oneA 25 40 hsel (h := ?_)
        simp only [Act.put, List.setIfInBounds_toArray, List.set_cons_zero, List.set_cons_succ]
        refine oneA 26 41 hsel (h := ?_)
        simp only [Act.put, List.setIfInBounds_toArray, List.set_cons_zero, List.set_cons_succ]
        refine oneA 27 42 hsel (h := ?_)
        simp only [Act.put, List.setIfInBounds_toArray, List.set_cons_zero, List.set_cons_succ]
        refine wpAnyL_done (by kernel_rfl) (by kernel_rfl) ?_ _
        clear hsel hHeld
        go_wp2
        go_ret
        exact ⟨by rw [HRS.out, HF.out]; rfl, HO.out.drew⟩
      have HGB : Hid (goodD g l k = !decide (x ∈ l.take k)) := Lib.hid (by
        have h3 : (decide (g ≠ 3) || decide (x = y0 + (k : Int))) = true := by
          by_cases g3 : g = 3
          · rw [show decide (x = y0 + (k : Int)) = true from decide_eq_true (by
              by_cases hx : x = y0 + (k : Int)
              · exact hx
              · exact absurd ⟨g3, hx⟩ c3), Bool.or_true]
          · rw [show decide (g ≠ 3) = true from decide_eq_true g3]; rfl
        rw [HGA.out, HID.out, h3, Bool.true_and, Bool.and_true])
      by_cases g3 : g = 3
      · have hx : x = y0 + (k : Int) := by
          by_cases hx : x = y0 + (k : Int)
          · exact hx
          · exact absurd ⟨g3, hx⟩ c3
        have d4 : decide (x = y0 + (k : Int)) = true := decide_eq_true hx
        have d6 : (x == y0 + (k : Int)) = true := by simpa using hx
        clear c3 y1 y2 c1 c2 hx
        subst g3
        go_upto_region 4 with (fail)
        refine wp_region_list (B := [false, false, false, false, false, false, false, false, false, false, false, false, false, false, false, false, false, false, false, false, false, false, false, false, false, false, false, false]) (S := (fun W => W.cell? ⟨b, off + k, none⟩ = some (.int .i64 x) ∧ W.cell? ⟨b, off, none⟩ = some (.int .i64 y0))) (by kernel_rfl) (by kernel_rfl) (by kernel_rfl) ⟨hcell, hcell0⟩ (fun hsel hHeld => ?_)
        refine oneA 0 15 hsel (h := ?_)
        simp only [Act.put, List.setIfInBounds_toArray, List.set_cons_zero, List.set_cons_succ]
        refine oneA 1 16 hsel (h := ?_)
        simp only [Act.put, List.setIfInBounds_toArray, List.set_cons_zero, List.set_cons_succ]
        refine oneA 2 17 hsel (h := ?_)
        simp only [Act.put, List.setIfInBounds_toArray, List.set_cons_zero, List.set_cons_succ]
        refine oneA 3 18 hsel (h := ?_)
        simp only [Act.put, List.setIfInBounds_toArray, List.set_cons_zero, List.set_cons_succ]
        refine oneA 4 19 hsel (h := ?_)
        simp only [Act.put, List.setIfInBounds_toArray, List.set_cons_zero, List.set_cons_succ]
        refine oneA 5 20 hsel (h := ?_)
        simp only [Act.put, List.setIfInBounds_toArray, List.set_cons_zero, List.set_cons_succ]
        refine oneA 6 21 hsel (h := ?_)
        simp only [Act.put, List.setIfInBounds_toArray, List.set_cons_zero, List.set_cons_succ]
        refine oneA 7 22 hsel (h := ?_)
        simp only [Act.put, List.setIfInBounds_toArray, List.set_cons_zero, List.set_cons_succ]
        refine oneA 8 23 hsel (h := ?_)
        simp only [Act.put, List.setIfInBounds_toArray, List.set_cons_zero, List.set_cons_succ]
        refine oneA 9 24 hsel (h := ?_)
        simp only [Act.put, List.setIfInBounds_toArray, List.set_cons_zero, List.set_cons_succ]
        refine oneA 10 25 hsel (h := ?_)
        simp only [Act.put, List.setIfInBounds_toArray, List.set_cons_zero, List.set_cons_succ]
        refine oneA 11 26 hsel (h := ?_)
        simp only [Act.put, List.setIfInBounds_toArray, List.set_cons_zero, List.set_cons_succ]
        refine oneA 12 27 hsel (h := ?_)
        simp only [Act.put, List.setIfInBounds_toArray, List.set_cons_zero, List.set_cons_succ]
        refine oneA 13 28 hsel (h := ?_)
        simp only [Act.put, List.setIfInBounds_toArray, List.set_cons_zero, List.set_cons_succ]
        refine oneA 14 29 hsel (h := ?_)
        simp only [Act.put, List.setIfInBounds_toArray, List.set_cons_zero, List.set_cons_succ]
        refine oneA 15 30 hsel (h := ?_)
        simp only [Act.put, List.setIfInBounds_toArray, List.set_cons_zero, List.set_cons_succ]
        refine oneA 16 31 hsel (h := ?_)
        simp only [Act.put, List.setIfInBounds_toArray, List.set_cons_zero, List.set_cons_succ]
        refine oneA 17 32 hsel (h := ?_)
        simp only [Act.put, List.setIfInBounds_toArray, List.set_cons_zero, List.set_cons_succ]
        refine oneA 18 33 hsel (h := ?_)
        simp only [Act.put, List.setIfInBounds_toArray, List.set_cons_zero, List.set_cons_succ]
        refine oneA 19 34 hsel (h := ?_)
        simp only [Act.put, List.setIfInBounds_toArray, List.set_cons_zero, List.set_cons_succ]
        refine oneA 20 35 hsel (h := ?_)
        simp only [Act.put, List.setIfInBounds_toArray, List.set_cons_zero, List.set_cons_succ]
        refine oneA 21 36 hsel (h := ?_)
        simp only [Act.put, List.setIfInBounds_toArray, List.set_cons_zero, List.set_cons_succ]
        refine oneA 22 37 hsel (h := ?_)
        simp only [Act.put, List.setIfInBounds_toArray, List.set_cons_zero, List.set_cons_succ]
        refine oneA 23 38 hsel (h := ?_)
        simp only [Act.put, List.setIfInBounds_toArray, List.set_cons_zero, List.set_cons_succ]
        refine oneA 24 39 hsel (h := ?_)
        simp only [Act.put, List.setIfInBounds_toArray, List.set_cons_zero, List.set_cons_succ]
        refine oneA 25 40 hsel (h := ?_)
        simp only [Act.put, List.setIfInBounds_toArray, List.set_cons_zero, List.set_cons_succ]
        refine oneA 26 41 hsel (h := ?_)
        simp only [Act.put, List.setIfInBounds_toArray, List.set_cons_zero, List.set_cons_succ]
        refine oneA 27 42 hsel (h := ?_)
        simp only [Act.put, List.setIfInBounds_toArray, List.set_cons_zero, List.set_cons_succ]
        refine wpAnyL_done (by kernel_rfl) (by kernel_rfl) ?_ _
        clear hsel hHeld
        go_wp2_with (fail)
        go_loopw [8] (fun i wq => ∃ (j : Nat), j ≤ k ∧ i = .int .i64 j ∧ Hid (∀ m, m < j → l[m]? ≠ some x) ∧ Hid (Only (w.heap.size ≤ ·) w wq)) (fun i _ => k - (intOf i).toNat)
        case atStart => exact ⟨0, Nat.zero_le _, rfl, Lib.hid fun m hm => absurd hm (Nat.not_lt_zero _), Lib.hid HO.out.drew⟩
        case round =>
          obtain ⟨j, hj, rfl, HJ, HOq⟩ := hrel
          by_cases hjk : j < k
          · obtain ⟨b1, off1, z, e1, hb1, hz, hcz⟩ := (HS.out.later HOq.out).at_ (k := j) (Nat.lt_trans hjk hlt)
            cases e1
            obtain ⟨b2, off2, x2, e2, hb2, hx2, hcx⟩ := (HS.out.later HOq.out).at_ hlt
            cases e2
            have hxx : x2 = x := Option.some.inj (hx2.symm.trans HYK.out)
            subst hxx
            have hj0 : (0 : Int) ≤ (j : Int) := by omega
            have hjn : (j : Int) < (n : Int) := by omega
            have hjn' : j < n := by omega
            have HZ := Lib.hid hz
            clear hz hx2
            by_cases hzx : z = x2
            · subst hzx
              have HF := Lib.hid (HN.out (by rw [HGB.out, show decide (z ∈ l.take k) = true from decide_eq_true ((my_mem (by rw [← HL.out]; exact hk)).2 ⟨j, hjk, HZ.out⟩)]; rfl))
              go_upto_region 9 with (fail)
              refine wp_region_list (B := [false, false, false, false, false, false, false, false, false]) (S := (fun W => W.cell? ⟨b, off + j, none⟩ = some (.int .i64 z) ∧ W.cell? ⟨b, off + k, none⟩ = some (.int .i64 z))) (by kernel_rfl) (by kernel_rfl) (by kernel_rfl) ⟨hcz, hcx⟩ (fun hsel hHeld => ?_)
              refine oneA 0 48 hsel (h := ?_)
              simp only [Act.put, List.setIfInBounds_toArray, List.set_cons_zero, List.set_cons_succ]
              refine oneA 1 49 hsel (h := ?_)
              simp only [Act.put, List.setIfInBounds_toArray, List.set_cons_zero, List.set_cons_succ]
              refine oneA 2 50 hsel (h := ?_)
              simp only [Act.put, List.setIfInBounds_toArray, List.set_cons_zero, List.set_cons_succ]
              refine oneA 3 51 hsel (h := ?_)
              simp only [Act.put, List.setIfInBounds_toArray, List.set_cons_zero, List.set_cons_succ]
              refine oneA 4 52 hsel (h := ?_)
              simp only [Act.put, List.setIfInBounds_toArray, List.set_cons_zero, List.set_cons_succ]
              refine oneA 5 53 hsel (h := ?_)
              simp only [Act.put, List.setIfInBounds_toArray, List.set_cons_zero, List.set_cons_succ]
              refine oneA 6 54 hsel (h := ?_)
              simp only [Act.put, List.setIfInBounds_toArray, List.set_cons_zero, List.set_cons_succ]
              refine oneA 7 55 hsel (h := ?_)
              simp only [Act.put, List.setIfInBounds_toArray, List.set_cons_zero, List.set_cons_succ]
              refine oneA 8 56 hsel (h := ?_)
              simp only [Act.put, List.setIfInBounds_toArray, List.set_cons_zero, List.set_cons_succ]
              refine wpAnyL_done (by kernel_rfl) (by kernel_rfl) ?_ _
              clear hsel hHeld
              go_wp2
              go_ret
              exact ⟨by rw [HRS.out, HF.out]; rfl, HOq.out.drew⟩
            · have d7 : decide (z = x2) = false := decide_eq_false hzx
              have HJ2 : Hid (∀ m, m < j + 1 → l[m]? ≠ some x2) := Lib.hid fun m hm => by
                rcases Nat.lt_succ_iff_lt_or_eq.1 hm with h | h
                · exact HJ.out m h
                · subst h; rw [HZ.out]; exact fun e => hzx (Option.some.inj e)
              go_upto_region 9 with (fail)
              refine wp_region_list (B := [false, false, false, false, false, false, false, false, false]) (S := (fun W => W.cell? ⟨b, off + j, none⟩ = some (.int .i64 z) ∧ W.cell? ⟨b, off + k, none⟩ = some (.int .i64 x2))) (by kernel_rfl) (by kernel_rfl) (by kernel_rfl) ⟨hcz, hcx⟩ (fun hsel hHeld => ?_)
              refine oneA 0 48 hsel (h := ?_)
              simp only [Act.put, List.setIfInBounds_toArray, List.set_cons_zero, List.set_cons_succ]
              refine oneA 1 49 hsel (h := ?_)
              simp only [Act.put, List.setIfInBounds_toArray, List.set_cons_zero, List.set_cons_succ]
              refine oneA 2 50 hsel (h := ?_)
              simp only [Act.put, List.setIfInBounds_toArray, List.set_cons_zero, List.set_cons_succ]
              refine oneA 3 51 hsel (h := ?_)
              simp only [Act.put, List.setIfInBounds_toArray, List.set_cons_zero, List.set_cons_succ]
              refine oneA 4 52 hsel (h := ?_)
              simp only [Act.put, List.setIfInBounds_toArray, List.set_cons_zero, List.set_cons_succ]
              refine oneA 5 53 hsel (h := ?_)
              simp only [Act.put, List.setIfInBounds_toArray, List.set_cons_zero, List.set_cons_succ]
              refine oneA 6 54 hsel (h := ?_)
              simp only [Act.put, List.setIfInBounds_toArray, List.set_cons_zero, List.set_cons_succ]
              refine oneA 7 55 hsel (h := ?_)
              simp only [Act.put, List.setIfInBounds_toArray, List.set_cons_zero, List.set_cons_succ]
              refine oneA 8 56 hsel (h := ?_)
              simp only [Act.put, List.setIfInBounds_toArray, List.set_cons_zero, List.set_cons_succ]
              refine wpAnyL_done (by kernel_rfl) (by kernel_rfl) ?_ _
              clear hsel hHeld
              go_wp2
              go_roundw
              case rel => exact ⟨j + 1, hjk, by go_num, HJ2, Lib.hid HOq.out.drew⟩
              case measure => (simp [intOf] <;> omega)
          · have HK2 : Hid (∀ m, m < k + 1 → goodD 3 l m = true) := Lib.hid fun m hm => by
              rcases Nat.lt_succ_iff_lt_or_eq.1 hm with h | h
              · exact HK.out m h
              · subst h
                rw [HGB.out, show decide (x ∈ l.take m) = false from decide_eq_false (fun hmem => by
                  obtain ⟨i, hi, hx⟩ := (my_mem (by rw [← HL.out]; exact hk)).1 hmem
                  exact HJ.out i (Nat.lt_of_lt_of_le hi (Nat.le_of_not_lt hjk)) hx)]
                rfl
            go_wp2
            go_roundw
            case rel => exact ⟨k + 1, hlt, by go_num, HK2, HOq⟩
            case measure => (simp [intOf] <;> omega)
      · have d8 : decide (g = 3) = false := decide_eq_false g3
        have d9 : (g == 3) = false := by simpa using g3
        clear c3 y1 y2 c1 c2
        go_upto_region 4 with (fail)
        refine wp_region_list (B := [false, false, false, false, false, false, false, false, false, false, false, false, false, false, false, false, false, false, false, false, false, false, false, false, false, false, false, false]) (S := (fun W => W.cell? ⟨b, off + k, none⟩ = some (.int .i64 x) ∧ W.cell? ⟨b, off, none⟩ = some (.int .i64 y0))) (by kernel_rfl) (by kernel_rfl) (by kernel_rfl) ⟨hcell, hcell0⟩ (fun hsel hHeld => ?_)
        refine oneA 0 15 hsel (h := ?_)
        simp only [Act.put, List.setIfInBounds_toArray, List.set_cons_zero, List.set_cons_succ]
        refine oneA 1 16 hsel (h := ?_)
        simp only [Act.put, List.setIfInBounds_toArray, List.set_cons_zero, List.set_cons_succ]
        refine oneA 2 17 hsel (h := ?_)
        simp only [Act.put, List.setIfInBounds_toArray, List.set_cons_zero, List.set_cons_succ]
        refine oneA 3 18 hsel (h := ?_)
        simp only [Act.put, List.setIfInBounds_toArray, List.set_cons_zero, List.set_cons_succ]
        refine oneA 4 19 hsel (h := ?_)
        simp only [Act.put, List.setIfInBounds_toArray, List.set_cons_zero, List.set_cons_succ]
        refine oneA 5 20 hsel (h := ?_)
        simp only [Act.put, List.setIfInBounds_toArray, List.set_cons_zero, List.set_cons_succ]
        refine oneA 6 21 hsel (h := ?_)
        simp only [Act.put, List.setIfInBounds_toArray, List.set_cons_zero, List.set_cons_succ]
        refine oneA 7 22 hsel (h := ?_)
        simp only [Act.put, List.setIfInBounds_toArray, List.set_cons_zero, List.set_cons_succ]
        refine oneA 8 23 hsel (h := ?_)
        simp only [Act.put, List.setIfInBounds_toArray, List.set_cons_zero, List.set_cons_succ]
        refine oneA 9 24 hsel (h := ?_)
        simp only [Act.put, List.setIfInBounds_toArray, List.set_cons_zero, List.set_cons_succ]
        refine oneA 10 25 hsel (h := ?_)
        simp only [Act.put, List.setIfInBounds_toArray, List.set_cons_zero, List.set_cons_succ]
        refine oneA 11 26 hsel (h := ?_)
        simp only [Act.put, List.setIfInBounds_toArray, List.set_cons_zero, List.set_cons_succ]
        refine oneA 12 27 hsel (h := ?_)
        simp only [Act.put, List.setIfInBounds_toArray, List.set_cons_zero, List.set_cons_succ]
        refine oneA 13 28 hsel (h := ?_)
        simp only [Act.put, List.setIfInBounds_toArray, List.set_cons_zero, List.set_cons_succ]
        refine oneA 14 29 hsel (h := ?_)
        simp only [Act.put, List.setIfInBounds_toArray, List.set_cons_zero, List.set_cons_succ]
        refine oneA 15 30 hsel (h := ?_)
        simp only [Act.put, List.setIfInBounds_toArray, List.set_cons_zero, List.set_cons_succ]
        refine take_skipL (i := 16) (d := 31) (oi := ?_) ?_ hsel (by kernel_rfl) (by kernel_rfl) (fun _ _ _ h => h) ?_ ?_ (by assumption) ?_
        case refine_2 => (simp only [List.getElem?_cons_succ, List.getElem?_cons_zero]; rfl)
        case refine_3 => rfl
        case refine_4 => rfl
        simp only [Act.put, List.setIfInBounds_toArray, List.set_cons_zero, List.set_cons_succ]
        refine take_skipL (i := 17) (d := 32) (oi := ?_) ?_ hsel (by kernel_rfl) (by kernel_rfl) (fun _ _ _ h => h) ?_ ?_ (by assumption) ?_
        case refine_2 => (simp only [List.getElem?_cons_succ, List.getElem?_cons_zero]; rfl)
        case refine_3 => rfl
        case refine_4 => rfl
        simp only [Act.put, List.setIfInBounds_toArray, List.set_cons_zero, List.set_cons_succ]
        refine take_skipL (i := 18) (d := 33) (oi := ?_) ?_ hsel (by kernel_rfl) (by kernel_rfl) (fun _ _ _ h => h) ?_ ?_ (by assumption) ?_
        case refine_2 => (simp only [List.getElem?_cons_succ, List.getElem?_cons_zero]; rfl)
        case refine_3 => rfl
        case refine_4 => rfl
        simp only [Act.put, List.setIfInBounds_toArray, List.set_cons_zero, List.set_cons_succ]
        refine take_skipL (i := 19) (d := 34) (oi := ?_) ?_ hsel (by kernel_rfl) (by kernel_rfl) (fun _ _ _ h => h) ?_ ?_ (by assumption) ?_
        case refine_2 => (simp only [List.getElem?_cons_succ, List.getElem?_cons_zero]; rfl)
        case refine_3 => rfl
        case refine_4 => rfl
        simp only [Act.put, List.setIfInBounds_toArray, List.set_cons_zero, List.set_cons_succ]
        refine take_skipL (i := 20) (d := 35) (oi := ?_) ?_ hsel (by kernel_rfl) (by kernel_rfl) (fun _ _ _ h => h) ?_ ?_ (by assumption) ?_
        case refine_2 => (simp only [List.getElem?_cons_succ, List.getElem?_cons_zero]; rfl)
        case refine_3 => rfl
        case refine_4 => rfl
        simp only [Act.put, List.setIfInBounds_toArray, List.set_cons_zero, List.set_cons_succ]
        refine take_skipL (i := 21) (d := 36) (oi := ?_) ?_ hsel (by kernel_rfl) (by kernel_rfl) (fun _ _ _ h => h) ?_ ?_ (by assumption) ?_
        case refine_2 => (simp only [List.getElem?_cons_succ, List.getElem?_cons_zero]; rfl)
        case refine_3 => rfl
        case refine_4 => rfl
        simp only [Act.put, List.setIfInBounds_toArray, List.set_cons_zero, List.set_cons_succ]
        refine take_skipL (i := 22) (d := 37) (oi := ?_) ?_ hsel (by kernel_rfl) (by kernel_rfl) (fun _ _ _ h => h) ?_ ?_ (by assumption) ?_
        case refine_2 => (simp only [List.getElem?_cons_succ, List.getElem?_cons_zero]; rfl)
        case refine_3 => rfl
        case refine_4 => rfl
        simp only [Act.put, List.setIfInBounds_toArray, List.set_cons_zero, List.set_cons_succ]
        refine take_skipL (i := 23) (d := 38) (oi := ?_) ?_ hsel (by kernel_rfl) (by kernel_rfl) (fun _ _ _ h => h) ?_ ?_ (by assumption) ?_
        case refine_2 => (simp only [List.getElem?_cons_succ, List.getElem?_cons_zero]; rfl)
        case refine_3 => rfl
        case refine_4 => rfl
        simp only [Act.put, List.setIfInBounds_toArray, List.set_cons_zero, List.set_cons_succ]
        refine take_skipL (i := 24) (d := 39) (oi := ?_) ?_ hsel (by kernel_rfl) (by kernel_rfl) (fun _ _ _ h => h) ?_ ?_ (by assumption) ?_
        case refine_2 => (simp only [List.getElem?_cons_succ, List.getElem?_cons_zero]; rfl)
        case refine_3 => rfl
        case refine_4 => rfl
        simp only [Act.put, List.setIfInBounds_toArray, List.set_cons_zero, List.set_cons_succ]
        refine take_skipL (i := 25) (d := 40) (oi := ?_) ?_ hsel (by kernel_rfl) (by kernel_rfl) (fun _ _ _ h => h) ?_ ?_ (by assumption) ?_
        case refine_2 => (simp only [List.getElem?_cons_succ, List.getElem?_cons_zero]; rfl)
        case refine_3 => rfl
        case refine_4 => rfl
        simp only [Act.put, List.setIfInBounds_toArray, List.set_cons_zero, List.set_cons_succ]
        refine oneA 26 41 hsel (h := ?_)
        simp only [Act.put, List.setIfInBounds_toArray, List.set_cons_zero, List.set_cons_succ]
        refine oneA 27 42 hsel (h := ?_)
        simp only [Act.put, List.setIfInBounds_toArray, List.set_cons_zero, List.set_cons_succ]
        refine wpAnyL_done (by kernel_rfl) (by kernel_rfl) ?_ _
        clear hsel hHeld
        go_wp2_with (fail)
        go_loopw [8] (fun i wq => ∃ (j : Nat), j ≤ k ∧ i = .int .i64 j ∧ Hid (∀ m, m < j → l[m]? ≠ some x) ∧ Hid (Only (w.heap.size ≤ ·) w wq)) (fun i _ => k - (intOf i).toNat)
        case atStart => exact ⟨0, Nat.zero_le _, rfl, Lib.hid fun m hm => absurd hm (Nat.not_lt_zero _), Lib.hid HO.out.drew⟩
        case round =>
          obtain ⟨j, hj, rfl, HJ, HOq⟩ := hrel
          by_cases hjk : j < k
          · obtain ⟨b1, off1, z, e1, hb1, hz, hcz⟩ := (HS.out.later HOq.out).at_ (k := j) (Nat.lt_trans hjk hlt)
            cases e1
            obtain ⟨b2, off2, x2, e2, hb2, hx2, hcx⟩ := (HS.out.later HOq.out).at_ hlt
            cases e2
            have hxx : x2 = x := Option.some.inj (hx2.symm.trans HYK.out)
            subst hxx
            have hj0 : (0 : Int) ≤ (j : Int) := by omega
            have hjn : (j : Int) < (n : Int) := by omega
            have hjn' : j < n := by omega
            have HZ := Lib.hid hz
            clear hz hx2
            by_cases hzx : z = x2
            · subst hzx
              have HF := Lib.hid (HN.out (by rw [HGB.out, show decide (z ∈ l.take k) = true from decide_eq_true ((my_mem (by rw [← HL.out]; exact hk)).2 ⟨j, hjk, HZ.out⟩)]; rfl))
              go_upto_region 9 with (fail)
              refine wp_region_list (B := [false, false, false, false, false, false, false, false, false]) (S := (fun W => W.cell? ⟨b, off + j, none⟩ = some (.int .i64 z) ∧ W.cell? ⟨b, off + k, none⟩ = some (.int .i64 z))) (by kernel_rfl) (by kernel_rfl) (by kernel_rfl) ⟨hcz, hcx⟩ (fun hsel hHeld => ?_)
              refine oneA 0 48 hsel (h := ?_)
              simp only [Act.put, List.setIfInBounds_toArray, List.set_cons_zero, List.set_cons_succ]
              refine oneA 1 49 hsel (h := ?_)
              simp only [Act.put, List.setIfInBounds_toArray, List.set_cons_zero, List.set_cons_succ]
              refine oneA 2 50 hsel (h := ?_)
              simp only [Act.put, List.setIfInBounds_toArray, List.set_cons_zero, List.set_cons_succ]
              refine oneA 3 51 hsel (h := ?_)
              simp only [Act.put, List.setIfInBounds_toArray, List.set_cons_zero, List.set_cons_succ]
              refine oneA 4 52 hsel (h := ?_)
              simp only [Act.put, List.setIfInBounds_toArray, List.set_cons_zero, List.set_cons_succ]
              refine oneA 5 53 hsel (h := ?_)
              simp only [Act.put, List.setIfInBounds_toArray, List.set_cons_zero, List.set_cons_succ]
              refine oneA 6 54 hsel (h := ?_)
              simp only [Act.put, List.setIfInBounds_toArray, List.set_cons_zero, List.set_cons_succ]
              refine oneA 7 55 hsel (h := ?_)
              simp only [Act.put, List.setIfInBounds_toArray, List.set_cons_zero, List.set_cons_succ]
              refine oneA 8 56 hsel (h := ?_)
              simp only [Act.put, List.setIfInBounds_toArray, List.set_cons_zero, List.set_cons_succ]
              refine wpAnyL_done (by kernel_rfl) (by kernel_rfl) ?_ _
              clear hsel hHeld
              go_wp2
              go_ret
              exact ⟨by rw [HRS.out, HF.out]; rfl, HOq.out.drew⟩
            · have d7 : decide (z = x2) = false := decide_eq_false hzx
              have HJ2 : Hid (∀ m, m < j + 1 → l[m]? ≠ some x2) := Lib.hid fun m hm => by
                rcases Nat.lt_succ_iff_lt_or_eq.1 hm with h | h
                · exact HJ.out m h
                · subst h; rw [HZ.out]; exact fun e => hzx (Option.some.inj e)
              go_upto_region 9 with (fail)
              refine wp_region_list (B := [false, false, false, false, false, false, false, false, false]) (S := (fun W => W.cell? ⟨b, off + j, none⟩ = some (.int .i64 z) ∧ W.cell? ⟨b, off + k, none⟩ = some (.int .i64 x2))) (by kernel_rfl) (by kernel_rfl) (by kernel_rfl) ⟨hcz, hcx⟩ (fun hsel hHeld => ?_)
              refine oneA 0 48 hsel (h := ?_)
              simp only [Act.put, List.setIfInBounds_toArray, List.set_cons_zero, List.set_cons_succ]
              refine oneA 1 49 hsel (h := ?_)
              simp only [Act.put, List.setIfInBounds_toArray, List.set_cons_zero, List.set_cons_succ]
              refine oneA 2 50 hsel (h := ?_)
              simp only [Act.put, List.setIfInBounds_toArray, List.set_cons_zero, List.set_cons_succ]
              refine oneA 3 51 hsel (h := ?_)
              simp only [Act.put, List.setIfInBounds_toArray, List.set_cons_zero, List.set_cons_succ]
              refine oneA 4 52 hsel (h := ?_)
              simp only [Act.put, List.setIfInBounds_toArray, List.set_cons_zero, List.set_cons_succ]
              refine oneA 5 53 hsel (h := ?_)
              simp only [Act.put, List.setIfInBounds_toArray, List.set_cons_zero, List.set_cons_succ]
              refine oneA 6 54 hsel (h := ?_)
              simp only [Act.put, List.setIfInBounds_toArray, List.set_cons_zero, List.set_cons_succ]
              refine oneA 7 55 hsel (h := ?_)
              simp only [Act.put, List.setIfInBounds_toArray, List.set_cons_zero, List.set_cons_succ]
              refine oneA 8 56 hsel (h := ?_)
              simp only [Act.put, List.setIfInBounds_toArray, List.set_cons_zero, List.set_cons_succ]
              refine wpAnyL_done (by kernel_rfl) (by kernel_rfl) ?_ _
              clear hsel hHeld
              go_wp2
              go_roundw
              case rel => exact ⟨j + 1, hjk, by go_num, HJ2, Lib.hid HOq.out.drew⟩
              case measure => (simp [intOf] <;> omega)
          · have HK2 : Hid (∀ m, m < k + 1 → goodD g l m = true) := Lib.hid fun m hm => by
              rcases Nat.lt_succ_iff_lt_or_eq.1 hm with h | h
              · exact HK.out m h
              · subst h
                rw [HGB.out, show decide (x ∈ l.take m) = false from decide_eq_false (fun hmem => by
                  obtain ⟨i, hi, hx⟩ := (my_mem (by rw [← HL.out]; exact hk)).1 hmem
                  exact HJ.out i (Nat.lt_of_lt_of_le hi (Nat.le_of_not_lt hjk)) hx)]
                rfl
            go_wp2
            go_roundw
            case rel => exact ⟨k + 1, hlt, by go_num, HK2, HOq⟩
            case measure => (simp [intOf] <;> omega)
    · obtain rfl : n = k := by omega
      have HMD : Hid (mayD g l = true) := Lib.hid ((mayD_iff g l).2 fun j hj => HK.out j (by rw [HL.out]; exact hj))
      by_cases m1 : 0 < many
      · by_cases m2 : many = (n : Int)
        · have HQ : Hid (decide (0 < many ∧ many = (n : Int)) = true) := Lib.hid (decide_eq_true ⟨m1, m2⟩)
          go_wp2
          go_ret
          exact ⟨by rw [HRS.out, HMD.out, HQ.out]; rfl, HO.out⟩
        · have HQ : Hid (decide (0 < many ∧ many = (n : Int)) = false) := Lib.hid (decide_eq_false fun h => m2 h.2)
          have d10 : (many == (n : Int)) = false := by simpa using m2
          go_wp2
          go_ret
          exact ⟨by rw [HRS.out, HMD.out, HQ.out]; rfl, HO.out⟩
      · have HQ : Hid (decide (0 < many ∧ many = (n : Int)) = false) := Lib.hid (decide_eq_false fun h => m1 h.1)
        go_wp2
        go_ret
        exact ⟨by rw [HRS.out, HMD.out, HQ.out]; rfl, HO.out⟩
end Go.Proofs.YtbgnfocfnjlabaaDoor

