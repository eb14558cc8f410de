/-
  PagerWrites: what its walk leans on.
-/
import Derived.Test.YtbpldkhgiddmlaaGreatDoorPut
import Derived.Test.YtbpldkhgiddmlaaGreatDoorPur
import Derived.Test.YtbpldkhgiddmlaaGreatDoorPlo
import Derived.Test.YtbpldkhgiddmlaaGreatDoorPgfx
import Derived.Test.YtbpldkhgiddmlaaGreatDoorPgar
import Derived.Test.YtbpldkhgiddmlaaGreatDoorPgo
import Derived.Test.YtbpldkhgiddmlaaGreatDoorPgy
import Derived.Test.YtbpldkhgiddmlaaGreatDoorGv
set_option linter.unusedVariables false
namespace Go.Proofs.YtbpldkhgiddmlaaGreatDoor
open Go.RowKit

theorem pw_right {g ph t x r p l : Int} {n : Nat} {ws : List Wt} (h : pgRight (okM g ph t x r p l n) p ws = true) : okM g ph t x r p l n = true ∧ (∃ N K : Nat, p = N ∧ x = K ∧ N ≤ 16384 ∧ 1 ≤ K ∧ K ≤ 2147483647) ∧ ∀ y ∈ ws, 0 ≤ y.1 ∧ y.1 ≤ 16384 := by
  unfold pgRight at h
  rw [Bool.and_eq_true] at h
  have h1 := of_decide_eq_true h.1
  unfold okP at h1
  refine ⟨h.1, ⟨p.toNat, x.toNat, by omega, by omega, by omega, by omega, by omega⟩, fun y hy => ?_⟩
  have h2 := right_fit ws _ h.2 y hy
  unfold fitW at h2
  simp only [Bool.and_eq_true, decide_eq_true_eq] at h2
  omega
theorem pw_prev {g ph t r p l : Int} {K n : Nat} (h : okM g ph t ((K + 1 : Nat) : Int) r p l n = true) (hK : 1 ≤ K) : okM g ph t (K : Int) r p l n = true := by
  have h1 := of_decide_eq_true h
  unfold okP at h1
  refine decide_eq_true ?_
  unfold okP
  exact ⟨h1.1, h1.2.1, by omega, by omega, h1.2.2.2.2⟩
theorem pw_few {ws : List Wt} {p : Int} {n : Nat} (h : fewP ws p n = true) : ws.length ≤ 12 ∧ sumW ws ≤ 5120 := by
  unfold fewP at h
  simp only [Bool.and_eq_true, decide_eq_true_eq] at h
  omega
theorem pw_cost : ∀ ws : List Wt, cost ws = sumW ws + ws.length
  | [] => rfl
  | x :: r => by
    have h1 := pw_cost r
    unfold cost sumW at h1 ⊢
    rw [List.map_cons, List.sum_cons, List.map_cons, List.sum_cons, List.length_cons, h1]
    omega
theorem costK_w : ∀ ws : List Wt, costK (ws.map opW) = cost ws
  | [] => rfl
  | x :: r => by
    have h1 := costK_w r
    unfold costK cost at h1 ⊢
    rw [List.map_cons, List.map_cons, List.sum_cons, List.map_cons, List.sum_cons, h1]
    rfl
theorem costK_app (a b : List Kop) : costK (a ++ b) = costK a + costK b := by unfold costK; rw [List.map_append, List.sum_append]
theorem costK_ops (fm : Bool) (N x : Int) (ws : List Wt) (a b : Bytes) (ha : a.length = 256) (hb : b.length = 256) : costK (opsK fm N x ws a b) ≤ cost ws + 1000 := by
  cases fm with
  | true =>
    have e : opsK true N x ws a b = [((0 : Int), N * 4, ([] : Bytes)), opW (sl (x - 1), a), opW (sl x, b)] ++ ws.map opW ++ [opS] := by simp [opsK, opsW, opsR]
    rw [e, costK_app, costK_app, costK_w]
    simp [costK, opW, opS, ha, hb]
    omega
  | false =>
    have e : opsK false N x ws a b = [((0 : Int), N * 4, ([] : Bytes)), opW (sl x, z256)] ++ ws.map opW ++ [opS, opW (sl x, b), opS] := by simp [opsK, opsW, opsR]
    rw [e, costK_app, costK_app, costK_w]
    simp [costK, opW, opS, hb, z256_len]
    omega
theorem RoomK.run {l : List Kop} : ∀ {d : Dk.Dsk}, RoomK d l → (runK d l).1.row.length ≤ 100000 := by
  induction l with
  | nil =>
    intro d h
    have h2 := h.2
    show d.row.length ≤ 100000
    omega
  | cons o l ih =>
    intro d h
    have h1 := h.op
    unfold runK
    split
    · exact ih h1
    · have := h1.2
      omega
theorem ops_ok (fm : Bool) (N x : Nat) (ws : List Wt) (a b : Bytes) (ha : a.length = 256) (hb : b.length = 256) (hN : N ≤ 16384) (hx : x ≤ 2147483647) (h2 : fm = true → 2 ≤ x) (hw : ∀ y ∈ ws, (0 ≤ y.1 ∧ y.1 ≤ 16384) ∧ y.2.length ≤ maxLen) : ∀ o ∈ opsK fm N x ws a b, OkO o := by
  have hW : ∀ y : Wt, (0 ≤ y.1 ∧ y.1 ≤ 16384) ∧ y.2.length ≤ maxLen → OkO (opW y) := fun y h => .inr (.inl ⟨rfl, by show I64v (y.1 * 4); unfold I64v; omega, h.2⟩)
  have hs : ∀ k : Nat, k ≤ 2147483647 → ∀ z : Bytes, z.length = 256 → OkO (opW (sl (k : Int), z)) := fun k hk z hz => hW _ ⟨by show 0 ≤ sl (k : Int) ∧ sl (k : Int) ≤ 16384; rw [sl_pg hk]; omega, by show z.length ≤ maxLen; rw [hz]; decide⟩
  have hS : OkO opS := .inr (.inr ⟨rfl, rfl, rfl⟩)
  have h0 : OkO ((0 : Int), (N : Int) * 4, ([] : Bytes)) := .inl ⟨rfl, by show 0 ≤ (N : Int) * 4; omega, rfl⟩
  intro o ho
  cases fm with
  | true =>
    obtain ⟨k, rfl⟩ : ∃ k : Nat, x = k + 1 := ⟨x - 1, by have := h2 rfl; omega⟩
    have e : opsK true N ((k + 1 : Nat) : Int) ws a b = [((0 : Int), (N : Int) * 4, ([] : Bytes)), opW (sl (k : Int), a), opW (sl ((k + 1 : Nat) : Int), b)] ++ ws.map opW ++ [opS] := by
      simp only [opsK, opsW, opsR]
      rw [show ((k + 1 : Nat) : Int) - 1 = (k : Int) by omega]
      simp
    rw [e] at ho
    simp only [List.mem_append, List.mem_cons, List.not_mem_nil, or_false, List.mem_map] at ho
    rcases ho with ((rfl | rfl | rfl) | ⟨y, hy, rfl⟩) | rfl
    · exact h0
    · exact hs k (by omega) a ha
    · exact hs (k + 1) hx b hb
    · exact hW y (hw y hy)
    · exact hS
  | false =>
    have e : opsK false N x ws a b = [((0 : Int), (N : Int) * 4, ([] : Bytes)), opW (sl (x : Int), z256)] ++ ws.map opW ++ [opS, opW (sl (x : Int), b), opS] := by simp [opsK, opsW, opsR]
    rw [e] at ho
    simp only [List.mem_append, List.mem_cons, List.not_mem_nil, or_false, List.mem_map] at ho
    rcases ho with ((rfl | rfl) | ⟨y, hy, rfl⟩) | (rfl | rfl | rfl)
    · exact h0
    · exact hs x hx z256 z256_len
    · exact hW y (hw y hy)
    · exact hS
    · exact hs x hx b hb
    · exact hS
theorem pw_of (w0 W : World) (A : Option Addr) (n c : Nat) (l : List Wt) (h : Wts w0 (.slice A n c) l) (h0 : Only (w0.heap.size ≤ ·) w0 W) (hn : n ≤ 1000) : Calls Tryz.prog 13 #[.slice A n c] W fun e w' => ∃ (R : Option Addr) (t : Nat) (C : List Value), e = .returned (.slice R n t) ∧ (∀ W', Only (w0.heap.size ≤ ·) w0 W' → Den (wrE.At W') l C) ∧ w'.ownsRow W.heap.size 71 2 (.slice R n t) n C ∧ Only (W.heap.size ≤ ·) W w' := by
  have h1 := Pgof_0 w0 W A n c l h h0 hn
  have hl := h.len
  unfold GaveW0 at h1
  rw [← hl] at h1
  exact h1
theorem pw_dload (w : World) (A : Option Addr) (n c : Nat) (xs : Bytes) (hs : Src w (.slice A n c) xs) (limit : Int) : Calls Tryz.prog 7 #[.slice A n c, .int .i64 limit] w fun e w' => ∃ p D, e = .returned (.pointer (some ⟨p, 0, none⟩)) ∧ DAt w' p (Dk.Dsk.load xs limit) D ∧ (∀ k, D k → w.heap.size ≤ k) ∧ Only (w.heap.size ≤ ·) w w' := by
  obtain ⟨A0, c0, e0, ht, hA, hc, hm⟩ := hs
  simp only [Value.slice.injEq] at e0
  obtain ⟨e1, e2, e3⟩ := e0
  subst e1 e2 e3
  refine (Dk.Load_c w (fun k => w.heap.size ≤ k) (fun _ h => h) A c xs limit ⟨cb_length xs, fun hn => ?_⟩ hc (by simp only [maxLen]; omega)).mono ?_
  · obtain ⟨ad, e, hcells⟩ := ht.2 hn
    exact ⟨ad, e, Nat.not_le.2 (by rw [e] at ht; exact ht.block hn), hcells⟩
  · rintro e w' ⟨p, rfl, h1, h2⟩
    exact ⟨p, fun k => w.heap.size ≤ k ∧ k < w'.heap.size, rfl, ⟨h1.mono fun k hk hF => ⟨hF, hk⟩, fun k hk => hk.2⟩, fun k hk => hk.1, h2⟩
theorem pw_arm (w : World) (p : Nat) (d : Dk.Dsk) (D : Nat → Prop) (h : DAt w p d D) (n : Int) (hn : n ≤ 9223372036854775807) :
    Calls Tryz.prog 10 #[.pointer (some ⟨p, 0, none⟩), .int .i64 n] w fun e w' => e = .returned (.tuple #[]) ∧ DGave w w' p (d.arm n) D := by
  refine (Dk.Arm_c w (fun k => D k ∨ w.heap.size ≤ k) p d h.grown n hn).mono ?_
  rintro e w' ⟨rfl, h1, h2⟩
  exact ⟨rfl, .mk h1 h2⟩
/-- A disk came back, in its cells. -/
def GaveV6 (D : Nat → Prop) (w : World) (tl : List Value) (d : Dk.Dsk) (e : Ending) (w' : World) : Prop := ∃ (L' : Int) (BA' : Option Addr) (bn' bc' : Nat) (RA' : Option Addr) (rn' rc' : Nat) (op' fu' : Int) (dn' : Bool), e = .returned (.tuple (.agg #[.int .i64 L', .slice BA' bn' bc', .slice RA' rn' rc', .int .i64 op', .int .i64 fu', .bool dn'] :: tl).toArray) ∧ KAt D w' (.agg #[.int .i64 L', .slice BA' bn' bc', .slice RA' rn' rc', .int .i64 op', .int .i64 fu', .bool dn']) d ∧ Only (w.heap.size ≤ ·) w w'
theorem v6_k2 {D : Nat → Prop} {w : World} {s : Dk.Dsk × Int} {d : Dk.Dsk} {y : Int} {P : Program} {f : Nat} {a : Array Value} (h : Calls P f a w (GaveK2 D w s)) (e1 : s = (d, y)) : Calls P f a w (GaveV6 D w [.slice none 0 0, .int .i64 y] d) := by
  subst e1
  refine h.mono ?_
  rintro e w' ⟨v, rfl, hk, ho⟩
  obtain ⟨h0, BA, bc, RA, rc, rfl, h2, h3⟩ := hk
  exact ⟨_, _, _, _, _, _, _, _, _, _, rfl, ⟨h0, BA, bc, RA, rc, rfl, h2, h3⟩, ho⟩
theorem v6_run {D : Nat → Prop} {w : World} {s : Dk.Dsk × Int} {d : Dk.Dsk} {y : Int} {P : Program} {f : Nat} {a : Array Value} (h : Calls P f a w (GaveRun D w s)) (e1 : s = (d, y)) : Calls P f a w (GaveV6 D w [.int .i64 y] d) := by
  subst e1
  refine h.mono ?_
  rintro e w' ⟨v, rfl, hk, ho⟩
  obtain ⟨h0, BA, bc, RA, rc, rfl, h2, h3⟩ := hk
  exact ⟨_, _, _, _, _, _, _, _, _, _, rfl, ⟨h0, BA, bc, RA, rc, rfl, h2, h3⟩, ho⟩
theorem kOps_c (fm : Bool) (w0 w : World) (e8 : Nat) (L8 : Int) (BA8 : Option Addr) (bn8 bc8 : Nat) (RA8 : Option Addr) (rn8 rc8 : Nat) (op8 fu8 : Int) (dn8 : Bool) (he8 : w0.heap.size ≤ e8) (hb8 : Blk w e8 34 [.int .i64 L8, .slice BA8 bn8 bc8, .slice RA8 rn8 rc8, .int .i64 op8, .int .i64 fu8, .bool dn8]) (h00 : Only (w0.heap.size ≤ ·) w0 w) (g ph t x r p l : Int) (A : Option Addr) (n c : Nat) (ms : Bytes) (hms : Src w (.slice A n c) ms) (hmn : n = ms.length) (RA : Option Addr) (rn rc : Nat) (ws : List Wt) (h : Wts w0 (.slice RA rn rc) ws) (hrn : rn ≤ 100) (hq : pgRight (okM g ph t x r p l n) p ws = true) (h2 : fm = true → 2 ≤ x) : Calls Tryz.prog 17 #[.slice RA rn rc, .agg #[.int .i64 g, .int .i64 ph, .int .i64 t, .int .i64 x, .int .i64 r, .int .i64 p, .int .i64 l, .slice A n c], .bool fm] w (GaveOps e8 w (opsK fm p x ws (encB [g, ph, t, x - 1, r, p, l] ms) (encB [g, ph, t, x, r, p, l] ms))) := by
  obtain ⟨hok, ⟨N, K, rfl, rfl, hN, hK1, hK⟩, hfit⟩ := pw_right hq
  have hen : ∀ (y : Int), okM g ph t y r (N : Int) l n = true → ∀ W, Only (w.heap.size ≤ ·) w W → Calls Tryz.prog 48 #[.agg #[.int .i64 g, .int .i64 ph, .int .i64 t, .int .i64 y, .int .i64 r, .int .i64 (N : Nat), .int .i64 l, .slice A n c]] W (GaveBE W (encB [g, ph, t, y, r, (N : Int), l] ms) 0) := fun y hy W hW => by
    have h1 := rmEncode_l W g ph t y r N l A n c ms (hms.later hW) hmn
    rw [hmn] at hy
    have h3 : okL [g, ph, t, y, r, (N : Int), l] ms.length = true := hy
    rwa [if_pos h3, if_pos h3] at h1
  cases fm with
  | false =>
    have h9 := kOps_cm w0 w e8 L8 BA8 bn8 bc8 RA8 rn8 rc8 op8 fu8 dn8 he8 hb8 h00 g ph t K r N l A n c RA rn rc ws h hfit hrn hK hN _ (hen _ hok)
    exact h9
  | true =>
    obtain ⟨k, rfl⟩ : ∃ k : Nat, K = k + 1 := ⟨K - 1, by omega⟩
    have hk1 : 1 ≤ k := by have := h2 rfl; omega
    have h9 := kOps_fm w0 w e8 L8 BA8 bn8 bc8 RA8 rn8 rc8 op8 fu8 dn8 he8 hb8 h00 g ph t (k + 1) r N l A n c RA rn rc ws h hfit hrn hK hN k rfl (encB [g, ph, t, (k : Int), r, (N : Int), l] ms) _ (hen _ hok) (hen _ (pw_prev hok hk1))
    rw [show ((k + 1 : Nat) : Int) - 1 = (k : Int) by omega]
    exact h9
theorem kat_later {D : Nat → Prop} {w w' : World} {v : Value} {d : Dk.Dsk} (h : KAt D w v d) (ho : Only (w.heap.size ≤ ·) w w') : KAt D w' v d := h.step (ho.mono fun _ h => .inr h) (fun _ h => .inl h)
/-- A pager, its disk, and the document's disk in a block of its own. -/
structure PW (w1 W : World) (q p b8 : Nat) (d : Dk.Dsk) (D : Nat → Prop) (cs : List Value) (dk : Dk.Dsk) : Prop where
  env : Env w1 W q p d D
  off : ∀ k, D k → k ≠ b8
  low : w1.heap.size ≤ b8
  blk : Blk W b8 34 cs
  kat : KAt (fun k => D k ∨ k = b8) W (.agg cs.toArray) dk
section
variable {w1 W W' : World} {q p b8 : Nat} {d d' dk dk' : Dk.Dsk} {D : Nat → Prop} {cs cs' : List Value}
theorem PW.later (h : PW w1 W q p b8 d D cs dk) (ho : Only (W.heap.size ≤ ·) W W') : PW w1 W' q p b8 d D cs dk := ⟨h.env.later ho, h.off, h.low, h.blk.only ho (Nat.not_le.2 h.blk.lt), kat_later h.kat ho⟩
theorem PW.gave (h : PW w1 W q p b8 d D cs dk) (hg : PGave W W' q p d' D) : ∃ D', PW w1 W' q p b8 d' D' cs dk ∧ Only (fun k => D k ∨ W.heap.size ≤ k) W W' := by
  obtain ⟨D', he, ho, hs⟩ := h.env.gave hg
  have hlt := h.blk.lt
  refine ⟨D', ⟨he, fun k hk e => ?_, h.low, h.blk.only ho (fun hk => ?_), h.kat.step (ho.mono fun k hk => hk.imp .inl id) (fun k hk => ?_)⟩, ho⟩
  · rcases hs k hk with h1 | h1
    · exact h.off k h1 e
    · omega
  · rcases hk with h1 | h1
    · exact h.off _ h1 rfl
    · omega
  · rcases hk with h1 | h1
    · exact (hs k h1).imp .inl id
    · exact .inl (.inr h1)
theorem PW.put (h : PW w1 W q p b8 d D cs dk) (hv : KAt (fun k => D k ∨ k = b8) W (.agg cs'.toArray) dk') (ho : Only (fun k => k = b8) W W') (hb : Blk W' b8 34 cs') (hq : ¬ q = b8) : PW w1 W' q p b8 d D cs' dk' :=
  ⟨h.env.far ho (fun hk => h.off _ hk rfl) hq h.low, h.off, h.low, hb, hv.step (ho.mono fun k hk => .inl (.inr hk)) (fun _ h => .inl h)⟩
end
theorem pw_newq {W W' : World} {q p b8 : Nat} {d : Dk.Dsk} {D : Nat → Prop} {cs : List Value} (h : PAt W' q p d D) (hb : Blk W b8 34 cs) (ho : Only (W.heap.size ≤ ·) W W') (e : q = b8) : False := by
  have h1 := hb.only ho (Nat.not_le.2 hb.lt)
  have h2 := h.blk
  rw [e] at h2
  unfold Blk at h1 h2
  rw [h1] at h2
  simp at h2
theorem pw_nine {w : World} {q : Nat} {t : TypeId} {a b c d e f g h i j k : Value} (hb : Blk w q t [a, b, c, d, e, f, g, h, i, j, k]) : w.cell? ⟨q, 0, none⟩ = some a ∧ w.cell? ⟨q, 1, none⟩ = some b ∧ w.cell? ⟨q, 2, none⟩ = some c ∧ w.cell? ⟨q, 3, none⟩ = some d ∧ w.cell? ⟨q, 4, none⟩ = some e ∧ w.cell? ⟨q, 5, none⟩ = some f ∧ w.cell? ⟨q, 6, none⟩ = some g ∧ w.cell? ⟨q, 7, none⟩ = some h ∧ w.cell? ⟨q, 8, none⟩ = some i := ⟨hb.cell 0, hb.cell 1, hb.cell 2, hb.cell 3, hb.cell 4, hb.cell 5, hb.cell 6, hb.cell 7, hb.cell 8⟩
theorem pw_old {a b c : Nat} (e : a = b) (h : a < c) (h2 : c ≤ b) : False := by omega
theorem pw_two {w : World} {p q : Nat} {a b c d e f g h : Value} {cs : List Value} (h1 : Blk w p 45 [a, b, c, d, e, f, g, h]) (h2 : Blk w q 34 cs) : ¬ p = q := fun e9 => by
  rw [e9] at h1
  unfold Blk at h1 h2
  rw [h1] at h2
  simp at h2
theorem pw_alen {g ph t x r p l : Int} {n : Nat} {ms : Bytes} (hok : okM g ph t x r p l n = true) (hn : n = ms.length) (h2 : 2 ≤ x) : (encB [g, ph, t, x - 1, r, p, l] ms).length = 256 := by
  obtain ⟨k, rfl⟩ : ∃ k : Nat, x = ((k + 1 : Nat) : Int) := ⟨(x - 1).toNat, by omega⟩
  rw [show ((k + 1 : Nat) : Int) - 1 = (k : Int) by omega]
  have h9 := pw_prev hok (by omega)
  rw [hn] at h9
  exact (enc_back h9).2.2.2
theorem pw_room {fm : Bool} {d : Dk.Dsk} {N x : Int} {ws : List Wt} {a b : Bytes} (h : RoomK d (opsK fm N x ws (List.replicate 256 0) (List.replicate 256 0))) (hb : b.length = 256) (ha : fm = true → a.length = 256) : RoomK d (opsK fm N x ws a b) := by
  have hu : (List.replicate 256 (0 : UInt8)).length = 256 := List.length_replicate
  generalize List.replicate 256 (0 : UInt8) = u at hu h
  have e : costK (opsK fm N x ws a b) = costK (opsK fm N x ws u u) := by
    generalize hz : z256 = z
    cases fm with
    | true => simp [opsK, opsW, opsR, costK, opW, opS, ha rfl, hb, hu]
    | false => simp [opsK, opsW, opsR, costK, opW, opS, hb, hu, hz]
  unfold RoomK at h ⊢
  rw [e]
  exact h
theorem pw_ops {fm : Bool} {p x : Int} {N K : Nat} {ws : List Wt} {a b : Bytes} (hp : p = N) (hx : x = K) (hN : N ≤ 16384) (hK : K ≤ 2147483647) (hfit : ∀ y ∈ ws, 0 ≤ y.1 ∧ y.1 ≤ 16384) (hsum : ∀ y ∈ ws, y.2.length ≤ 140737488355328) (hb : b.length = 256) (ha : fm = true → a.length = 256) (h2 : fm = true → 2 ≤ x) : ∀ o ∈ opsK fm p x ws a b, OkO o := by
  subst hp hx
  have hw : ∀ y ∈ ws, (0 ≤ y.1 ∧ y.1 ≤ 16384) ∧ y.2.length ≤ maxLen := fun y hy => ⟨hfit y hy, by have := hsum y hy; simp only [maxLen]; omega⟩
  cases fm with
  | true => exact ops_ok true N K ws a b (ha rfl) hb hN hK (fun _ => by have := h2 rfl; omega) hw
  | false =>
    have e : opsK false (N : Int) (K : Int) ws a b = opsK false (N : Int) (K : Int) ws b b := rfl
    rw [e]
    exact ops_ok false N K ws b b hb hb hN hK (fun e => by cases e) hw
theorem qs_nums {n m : Nat} (h : m = n / 4) (h2 : n ≤ 65536) : Int.tdiv (n : Int) 4 = (m : Nat) ∧ (n : Int) / 4 = (m : Nat) ∧ wrap64 ((m : Nat) : Int) = (m : Nat) ∧ IntKind.i64.wrap ((m : Nat) : Int) = (m : Nat) := by
  refine ⟨?_, by omega, IntWalk.wrap64_in _ (by omega), IntWalk.i64_in _ (by omega)⟩
  rw [Int.tdiv_eq_ediv_of_nonneg (Int.natCast_nonneg n)]
  omega
theorem blk_eleven {w : World} {q : Nat} {t : TypeId} {a b c d e f g h i j k : Value} (hb : Blk w q t [a, b, c, d, e, f, g, h, i, j, k]) : w.cell? ⟨q, 0, none⟩ = some a ∧ w.cell? ⟨q, 1, none⟩ = some b ∧ w.cell? ⟨q, 2, none⟩ = some c ∧ w.cell? ⟨q, 3, none⟩ = some d ∧ w.cell? ⟨q, 4, none⟩ = some e ∧ w.cell? ⟨q, 5, none⟩ = some f ∧ w.cell? ⟨q, 6, none⟩ = some g ∧ w.cell? ⟨q, 7, none⟩ = some h ∧ w.cell? ⟨q, 8, none⟩ = some i ∧ w.cell? ⟨q, 9, none⟩ = some j ∧ w.cell? ⟨q, 10, none⟩ = some k := ⟨hb.cell 0, hb.cell 1, hb.cell 2, hb.cell 3, hb.cell 4, hb.cell 5, hb.cell 6, hb.cell 7, hb.cell 8, hb.cell 9, hb.cell 10⟩
end Go.Proofs.YtbpldkhgiddmlaaGreatDoor
