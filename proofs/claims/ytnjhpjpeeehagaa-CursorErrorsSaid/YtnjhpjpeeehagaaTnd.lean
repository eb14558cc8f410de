/-
  The document's Node; the source that tells it.
-/
import Derived.Test.YtnjhpjpeeehagaaTnm
set_option linter.unusedVariables false
namespace Go.Proofs.Ytnjhpjpeeehagaa
open Go.RowKit

set_option maxRecDepth 100000 in
set_option maxHeartbeats 6400000 in
theorem rNode_c (w : World) (A : Option Addr) (n c : Nat) (r : Int) (l : List Nm) (h : Nms w (.slice A n c) l) (hn : n ≤ 1000000) :
    Calls Try.prog 27 #[.slice A n c, .int .i64 r] w (NodeSays w (nodeP l r) 11) := by
  have HNL := Lib.hid h.len
  have HN := Lib.hid h
  clear h
  obtain ⟨w1, hw1⟩ : ∃ w1, w1 = w.alloc (.cells #[.bool false, .slice none 0 0, .slice none 0 0] 63) := ⟨_, rfl⟩
  obtain ⟨b1, hb1⟩ : ∃ b1, b1 = w.heap.size := ⟨_, rfl⟩
  have HB : Hid (Blk w1 b1 63 [.bool false, .slice none 0 0, .slice none 0 0]) := Lib.hid (by rw [hw1, hb1]; exact Blk.new w _ [.bool false, .slice none 0 0, .slice none 0 0])
  have HO : Hid (Only (w.heap.size ≤ ·) w w1) := Lib.hid (by rw [hw1]; exact (Only.refl _ w).alloc (fun _ h => h) _)
  have HBN : Hid (w.heap.size ≤ b1) := Lib.hid (by omega)
  have HEQ : Hid (w1 = w.alloc (.cells #[.bool false, .slice none 0 0, .slice none 0 0] 63) ∧ b1 = w.heap.size) := Lib.hid ⟨hw1, hb1⟩
  clear hw1 hb1
  go_enter Try.func27, Try.ntmps27
  go_upto_region 1 with (fail)
  rw [← HEQ.out.1, ← HEQ.out.2]
  obtain ⟨c0, c1, c2⟩ := HB.out.tri
  obtain ⟨f0, f1, f2⟩ := HB.out.melt3
  go_wp2
  go_loopg [6] n (fun gk i wr => ∃ k : Nat, gk = n - k ∧ k ≤ n ∧ i = .int .i64 (k : Int) ∧ wr = w1 ∧ Hid (∀ x ∈ l.take k, x.1 ≠ r))
  case atStart => exact ⟨0, rfl, Nat.zero_le _, rfl, rfl, Lib.hid (fun x hx => by simp at hx)⟩
  case round =>
    obtain ⟨k, rfl, hk, rfl, rfl, HK⟩ := hrel
    by_cases hlt : k < n
    · obtain ⟨b, off, x, Q, R, s, q, t, u, rfl, hb, hx, q0, q1, q2, q3, hnd⟩ := nms_at (HN.out.later HO.out) hlt
      have hlt' : (k : Int) < (n : Int) := by omega
      have HX := Lib.hid hx
      have HND := Lib.hid hnd
      obtain ⟨xr, x⟩ := x
      obtain ⟨lf, hlf⟩ : ∃ lf, lf = x.leaf := ⟨_, rfl⟩
      simp only at q0 q1 hnd HND
      rw [← hlf] at q1 HND
      have HLF := Lib.hid hlf
      clear hx hnd hlf
      by_cases hr : xr = r
      · subst hr
        have HP : Hid (nodeP l xr = some x) := Lib.hid (nodeP_at HX.out rfl HK.out)
        go_wp2
        have HF1 : Hid (Blk (((wr.setCell ⟨b1, 0, none⟩ (.bool lf)).setCell ⟨b1, 1, none⟩ (.slice Q s q)).setCell ⟨b1, 2, none⟩ (.slice R t u)) b1 63 [.bool lf, .slice Q s q, .slice R t u]) := Lib.hid (((HB.out.set_ 0 _).set_ 1 _).set_ 2 _)
        have HF2 : Hid (Only (fun k => k = b1) wr (((wr.setCell ⟨b1, 0, none⟩ (.bool lf)).setCell ⟨b1, 1, none⟩ (.slice Q s q)).setCell ⟨b1, 2, none⟩ (.slice R t u))) := Lib.hid ((((Only.refl (fun k => k = b1) wr).setCell (p := ⟨b1, 0, none⟩) rfl _).setCell (p := ⟨b1, 1, none⟩) rfl _).setCell (p := ⟨b1, 2, none⟩) rfl _)
        refine bodyPost_ret (v := .tuple #[.agg #[.bool lf, .slice Q s q, .slice R t u], .int .i64 0]) (results_cell2 rfl rfl rfl (load_node (.inl rfl) HF1.out)) rfl ⟨⟨lf, Q, s, q, R, t, u, 0, rfl, by rw [HP.out]; rfl, ?_⟩, HO.out.trans (HF2.out.mono fun k hk => by subst hk; exact HBN.out)⟩
        rw [HP.out]
        exact HND.out.keep HB.out HF2.out
      · go_wp2
        go_roundg (n - (k + 1))
        case measure => omega
        case rel => exact ⟨k + 1, rfl, by omega, by go_num, rfl, Lib.hid (fun y hy => by
          rw [List.take_add_one, HX.out] at hy
          rcases List.mem_append.1 hy with h | h
          · exact HK.out y h
          · simp at h
            subst h
            exact hr)⟩
    · obtain rfl : k = n := by omega
      have hkm : ¬ (k : Int) < (k : Int) := by omega
      have HP : Hid (nodeP l r = none) := Lib.hid (nodeP_none fun x hx => HK.out x (by rw [HNL.out, List.take_length]; exact hx))
      go_wp2
      have HF1 : Hid (Blk (((wr.setCell ⟨b1, 0, none⟩ (.bool false)).setCell ⟨b1, 1, none⟩ (.slice none 0 0)).setCell ⟨b1, 2, none⟩ (.slice none 0 0)) b1 63 [.bool false, .slice none 0 0, .slice none 0 0]) := Lib.hid (((HB.out.set_ 0 _).set_ 1 _).set_ 2 _)
      have HF2 : Hid (Only (w.heap.size ≤ ·) w (((wr.setCell ⟨b1, 0, none⟩ (.bool false)).setCell ⟨b1, 1, none⟩ (.slice none 0 0)).setCell ⟨b1, 2, none⟩ (.slice none 0 0))) := Lib.hid (((HO.out.setCell (p := ⟨b1, 0, none⟩) HBN.out _).setCell (p := ⟨b1, 1, none⟩) HBN.out _).setCell (p := ⟨b1, 2, none⟩) HBN.out _)
      refine bodyPost_ret (v := .tuple #[.agg #[.bool false, .slice none 0 0, .slice none 0 0], .int .i64 11]) (results_cell2 rfl rfl rfl (load_node (.inl rfl) HF1.out)) rfl ⟨⟨false, none, 0, 0, none, 0, 0, 11, rfl, by rw [HP.out]; rfl, ?_⟩, HF2.out⟩
      rw [HP.out]
      exact Nod.none_ _
/-- The source's value: a closure over the row's variable. -/
abbrev srcV (bl : Nat) : Value := .func (.func 26) #[] #[.pointer (some ⟨bl, 0, none⟩)]
theorem Source_c (w : World) (A : Option Addr) (n c : Nat) :
    Calls Try.prog 12 #[.slice A n c] w fun e w' => (∃ bl, e = .returned (srcV bl) ∧ w.heap.size ≤ bl ∧ Blk w' bl 22 [.slice A n c]) ∧ Only (w.heap.size ≤ ·) w w' := by
  have hmf : ∀ (fn : Fn) (first cap : Array Value) (w : World), (Instr.makeFunc fn first cap).run Try.prog w = .ok (.func fn first cap) w := fun _ _ _ _ => rfl
  go_enter Try.func12, Try.ntmps12
  go_wp2
  go_ret
  exact ⟨⟨_, rfl, Nat.le_refl _, Blk.new w _ [.slice A n c]⟩, (Only.refl _ w).alloc (fun _ h => h) _⟩
set_option maxRecDepth 100000 in
set_option maxHeartbeats 6400000 in
theorem src_c (w : World) (bl : Nat) (A : Option Addr) (n c : Nat) (r : Int) (l : List Nm) (hb : Blk w bl 22 [.slice A n c]) (h : Nms w (.slice A n c) l) (hf : FewN l) :
    Calls Try.prog 26 #[.int .i64 r, .pointer (some ⟨bl, 0, none⟩)] w (NodeSays w (nodeP l r) 11) := by
  have HSM := Lib.hid (hf.get r).few
  have HN1 : Hid (n ≤ 1000000) := Lib.hid (by have h1 := h.len; have h2 := hf.1; omega)
  obtain ⟨w1, hw1⟩ : ∃ w1, w1 = w.alloc (.cells #[.bool false, .slice none 0 0, .slice none 0 0] 55) := ⟨_, rfl⟩
  obtain ⟨b1, hb1⟩ : ∃ b1, b1 = w.heap.size := ⟨_, rfl⟩
  have HB : Hid (Blk w1 b1 55 [.bool false, .slice none 0 0, .slice none 0 0]) := Lib.hid (by rw [hw1, hb1]; exact Blk.new w _ [.bool false, .slice none 0 0, .slice none 0 0])
  have HO : Hid (Only (w.heap.size ≤ ·) w w1) := Lib.hid (by rw [hw1]; exact (Only.refl _ w).alloc (fun _ h => h) _)
  have HBN : Hid (w.heap.size ≤ b1) := Lib.hid (by omega)
  have HEQ : Hid (w1 = w.alloc (.cells #[.bool false, .slice none 0 0, .slice none 0 0] 55) ∧ b1 = w.heap.size) := Lib.hid ⟨hw1, hb1⟩
  have HL := Lib.hid (hb.later HO.out)
  have HNM := Lib.hid (h.later HO.out)
  clear hw1 hb1 hb h hf
  go_enter Try.func26, Try.ntmps26
  go_upto_region 1 with (fail)
  rw [← HEQ.out.1, ← HEQ.out.2]
  have q0 := HL.out.cell 0
  go_upto_region 2 with (go_at_call 27; (with_reducible refine (rNode_c _ A n c r l HNM.out HN1.out).mono ?_); rintro e w2 ⟨⟨f, P, p, pc, Q, q, qc, er, rfl, her, hnd⟩, ho⟩; have HER := Lib.hid her; have HND := Lib.hid hnd; replace HB := Lib.hid (HB.out.later ho); replace HO := Lib.hid (on_new HO.out ho); clear her hnd ho)
  obtain ⟨w3, hw3⟩ : ∃ w3, w3 = w2.alloc (.cells #[.bool f, .slice P p pc, .slice Q q qc] 63) := ⟨_, rfl⟩
  obtain ⟨b3, hb3⟩ : ∃ b3, b3 = w2.heap.size := ⟨_, rfl⟩
  have HB3 : Hid (Blk w3 b3 63 [.bool f, .slice P p pc, .slice Q q qc]) := Lib.hid (by rw [hw3, hb3]; exact Blk.new w2 _ [.bool f, .slice P p pc, .slice Q q qc])
  have HNX : Hid (Only (w2.heap.size ≤ ·) w2 w3) := Lib.hid (by rw [hw3]; exact (Only.refl _ w2).alloc (fun _ h => h) _)
  have HEQ3 : Hid (w3 = w2.alloc (.cells #[.bool f, .slice P p pc, .slice Q q qc] 63) ∧ b3 = w2.heap.size) := Lib.hid ⟨hw3, hb3⟩
  replace HND := Lib.hid (HND.out.later HNX.out)
  replace HB := Lib.hid (HB.out.later HNX.out)
  replace HO := Lib.hid (on_new HO.out HNX.out)
  clear hw3 hb3 q0
  rw [← HEQ3.out.1, ← HEQ3.out.2]
  obtain ⟨q0, q1, q2⟩ := HB3.out.tri
  go_wp2_with (go_at_call 28; (with_reducible refine (NOf_c _ P Q p pc q qc f _ HND.out HSM.out).mono ?_); rintro e w4 ⟨X, x, xc, Y, y, yc, rfl, hnd, ho⟩; replace HND := Lib.hid hnd; replace HB := Lib.hid (HB.out.later ho); replace HO := Lib.hid (on_new HO.out ho); obtain ⟨o0, o1, o2⟩ := HB.out.tri; obtain ⟨f0, f1, f2⟩ := HB.out.melt3; clear hnd ho)
  obtain ⟨g, hg⟩ : ∃ g, g = ((nodeP l r).getD ⟨false, [], []⟩).leaf := ⟨_, rfl⟩
  rw [← hg] at HND ⊢
  have HF1 : Hid (Blk (((w4.setCell ⟨b1, 0, none⟩ (.bool g)).setCell ⟨b1, 1, none⟩ (.slice X x xc)).setCell ⟨b1, 2, none⟩ (.slice Y y yc)) b1 55 [.bool g, .slice X x xc, .slice Y y yc]) := Lib.hid (((HB.out.set_ 0 _).set_ 1 _).set_ 2 _)
  have HF2 : Hid (Only (fun k => k = b1) w4 (((w4.setCell ⟨b1, 0, none⟩ (.bool g)).setCell ⟨b1, 1, none⟩ (.slice X x xc)).setCell ⟨b1, 2, none⟩ (.slice Y y yc))) := Lib.hid ((((Only.refl (fun k => k = b1) w4).setCell (p := ⟨b1, 0, none⟩) rfl _).setCell (p := ⟨b1, 1, none⟩) rfl _).setCell (p := ⟨b1, 2, none⟩) rfl _)
  refine bodyPost_ret (v := .tuple #[.agg #[.bool g, .slice X x xc, .slice Y y yc], .int .i64 er]) (results_cell2 rfl rfl rfl (load_node (.inr rfl) HF1.out)) rfl ⟨⟨g, X, x, xc, Y, y, yc, er, rfl, HER.out, HND.out.keep HB.out HF2.out⟩, HO.out.trans (HF2.out.mono fun k hk => by subst hk; exact HBN.out)⟩
end Go.Proofs.Ytnjhpjpeeehagaa
