/-
  Update, Of.
-/
import Derived.Test.YtdgcplmekkancaaNew
set_option linter.unusedVariables false
namespace Go.Proofs.Ytdgcplmekkancaa
open Go.RowKit

/-- A slice value that holds these bytes. -/
def Txt (w : World) (A : Option Addr) (n : Nat) (xs : Bytes) : Prop := xs.length = n ∧ (0 < n → ∃ ad, A = some ad ∧ ∀ j u, (cb xs)[j]? = some u → w.cell? (ad.add j) = some u)

theorem add_block' (a : Addr) (n : Nat) : (a.add n).block = a.block := by unfold Addr.add; split <;> rfl
theorem Txt.block {w : World} {ad : Addr} {n : Nat} {xs : Bytes} (h : Txt w (some ad) n xs) (hn : 0 < n) : ad.block < w.heap.size := by
  obtain ⟨ad', e, hc⟩ := h.2 hn
  cases e
  have hl : 0 < (cb xs).length := by rw [cb_length, h.1]; exact hn
  have := World.block_lt_of_cell? w _ (hc 0 _ (List.getElem?_eq_getElem hl))
  rwa [add_block'] at this
theorem Txt.only {w w' : World} {F : Nat → Prop} {A : Option Addr} {n : Nat} {xs : Bytes} (h : Txt w A n xs) (ho : Only F w w') (hF : ∀ ad, A = some ad → ¬ F ad.block) : Txt w' A n xs :=
  ⟨h.1, fun hn => by
    obtain ⟨ad, e, hc⟩ := h.2 hn
    exact ⟨ad, e, fun j u hu => (ho.cell (p := ad.add j) (by rw [add_block']; exact hF ad e)).trans (hc j u hu)⟩⟩
theorem Txt.later {w w' : World} {A : Option Addr} {n : Nat} {xs : Bytes} (h : Txt w A n xs) (ho : Only (w.heap.size ≤ ·) w w') : Txt w' A n xs :=
  ⟨h.1, fun hn => by
    obtain ⟨ad, e, hc⟩ := h.2 hn
    subst e
    have hb := Txt.block h hn
    exact ⟨ad, rfl, fun j u hu => (ho.cell (p := ad.add j) (by rw [add_block']; omega)).trans (hc j u hu)⟩⟩

theorem run_take_succ (c : Nat) (xs : Bytes) (k : Nat) (x : UInt8) (h : xs[k]? = some x) : run c (xs.take (k + 1)) = bytestep (run c (xs.take k)) x.toNat := by
  rw [List.take_add_one, h, run_append, bytestep_eq]
  rfl

theorem and15 (c d : Nat) (h : c < 4294967296) (hd : d = c % 16) : bits .and .u32 (c : Int) 15 = (d : Int) := by
  have := u32_and_nat c 15 h (by omega)
  rw [nat_mask4, ← hd] at this
  exact this
theorem tab_lt (d : Nat) (h : d < 16) : tab d < 4294967296 := bsteps_lt (by omega)
theorem fold_val (c d t : Nat) (h : c < 4294967296) (hd : d = c % 16) (ht : t = tab d) : bits .xor .u32 ((c : Int) / 16) (t : Int) = ((step4 c : Nat) : Int) := by
  have h3 : (c : Int) / 16 = ((c / 16 : Nat) : Int) := by omega
  have h4 := tab_lt d (by omega)
  rw [h3, u32_xor_nat _ _ (by omega) (by omega)]
  unfold step4
  rw [ht, hd]
theorem step4_lt {c : Nat} (h : c < 4294967296) : step4 c < 4294967296 := by rw [step4_eq]; exact bsteps_lt h

/-- The table lies here. -/
def TabAt (w : World) (g : Nat) : Prop := Blk w g 38 (tcells 16)
theorem TabAt.cell {w : World} {g : Nat} (h : TabAt w g) (d : Nat) (hd : d < 16) : w.cell? ⟨g, d, none⟩ = some (.int .u32 (tab d : Nat)) := by
  have := Blk.cell h d
  rw [this]
  simp [tcells, hd]

def zs16 : List Value := [.int .u32 0, .int .u32 0, .int .u32 0, .int .u32 0, .int .u32 0, .int .u32 0, .int .u32 0, .int .u32 0, .int .u32 0, .int .u32 0, .int .u32 0, .int .u32 0, .int .u32 0, .int .u32 0, .int .u32 0, .int .u32 0]
theorem there38 (w1 : World) : (w1.alloc (.cells #[.int .u32 0, .int .u32 0, .int .u32 0, .int .u32 0, .int .u32 0, .int .u32 0, .int .u32 0, .int .u32 0, .int .u32 0, .int .u32 0, .int .u32 0, .int .u32 0, .int .u32 0, .int .u32 0, .int .u32 0, .int .u32 0] 38)).there w1.heap.size 0 (tcells 16).toArray.size := by
  have h : (tcells 16).toArray.size = 16 := by simp [tcells]
  rw [h]
  exact (Blk.new w1 38 zs16).there 0 16 (by decide)
theorem tab38 (w1 : World) : TabAt ((w1.alloc (.cells #[.int .u32 0, .int .u32 0, .int .u32 0, .int .u32 0, .int .u32 0, .int .u32 0, .int .u32 0, .int .u32 0, .int .u32 0, .int .u32 0, .int .u32 0, .int .u32 0, .int .u32 0, .int .u32 0, .int .u32 0, .int .u32 0] 38)).setCells w1.heap.size 0 (tcells 16)) w1.heap.size := by
  have h : (tcells 16).length = 16 := by simp [tcells]
  have := (Blk.new w1 38 zs16).setN (tcells 16) 0 (by rw [h]; decide)
  have e : over zs16 0 (tcells 16) = tcells 16 := by
    unfold over
    rw [h]
    simp [zs16]
  rw [e] at this
  exact this

set_option maxRecDepth 100000 in
set_option maxHeartbeats 1600000 in
theorem Update_c (w : World) (s : Nat) (hs : s < 4294967296) (A : Option Addr) (n c : Nat) (xs : Bytes) (ht : Txt w A n xs) (hn : n ≤ 1152921504606846976) :
    Calls Try.prog 11 #[.int .u32 s, .slice A n c] w fun e w' => e = .returned (.int .u32 (upd s xs : Nat)) ∧ Only (w.heap.size ≤ ·) w w' := by
  have hx0 : bits .xor .u32 4294967295 (s : Int) = ((s ^^^ M32 : Nat) : Int) := by
    have := u32_xor_nat 4294967295 s (by omega) hs
    rw [Nat.xor_comm] at this
    exact this
  have HT := Lib.hid ht
  clear ht
  go_enter Try.func11, Try.ntmps11
  have hsg : IntKind.u32.signed = false := rfl
  have hmx : IntKind.u32.max = 4294967295 := rfl
  go_wp2_with (first | (go_at_call 18; refine (newTable_c _).mono ?_; rintro e w1 ⟨rfl, ho1⟩; have HO1 := Lib.hid ho1; clear ho1) | (with_reducible refine wpList_store_mid rfl 38 (.tmp 5) (.tmp 9) rfl w1.heap.size 0 (tcells 16).toArray (by simp [Act.eval, Act.put]) (by simp [Act.eval, Act.put]) (there38 w1) (by kernel_rfl) (by kernel_rfl) ?_))
  have HB := Lib.hid (tab38 w1)
  obtain ⟨wz, hwz⟩ : ∃ wz, wz = (w1.alloc (.cells #[.int .u32 0, .int .u32 0, .int .u32 0, .int .u32 0, .int .u32 0, .int .u32 0, .int .u32 0, .int .u32 0, .int .u32 0, .int .u32 0, .int .u32 0, .int .u32 0, .int .u32 0, .int .u32 0, .int .u32 0, .int .u32 0] 38)).setCells w1.heap.size 0 (tcells 16) := ⟨_, rfl⟩
  rw [← hwz] at HB ⊢
  have HO : Hid (Only (w.heap.size ≤ ·) w wz) := by
    subst hwz
    exact (HO1.out.alloc (fun _ h => h) _).setCells _ _ _ HO1.out.size
  have HT2 : Hid (Txt wz A n xs) := HT.out.later HO.out
  clear hwz
  obtain ⟨g, hg⟩ : ∃ g, g = w1.heap.size := ⟨_, rfl⟩
  rw [← hg] at HB ⊢
  clear HO1 hg w1 hsg hmx
  go_loop [14, 6] (fun i v => ∃ k : Nat, k ≤ n ∧ i = .int .i64 k ∧ v = .int .u32 (run (s ^^^ M32) (xs.take k) : Nat)) (fun i _ => n - (intOf i).toNat)
  case atStart => exact ⟨0, Nat.zero_le _, rfl, rfl⟩
  case round =>
    obtain ⟨k, hk, rfl, rfl⟩ := hrel
    by_cases hlt : k < n
    · have hkn : (k : Int) < (n : Int) := by omega
      obtain ⟨ad, rfl, hc⟩ := HT2.out.2 (by omega)
      have hlen := HT2.out.1
      obtain ⟨x, hx⟩ : ∃ x, xs[k]? = some x := ⟨_, List.getElem?_eq_getElem (by omega)⟩
      have hcx : wz.cell? (ad.add k) = some (.int .u8 (x.toNat : Nat)) := hc k _ (by simp [cb, hx])
      have hnx : run (s ^^^ M32) (xs.take (k + 1)) = bytestep (run (s ^^^ M32) (xs.take k)) x.toNat := run_take_succ _ _ _ _ hx
      have hx8 := u8_lt x
      have hC : run (s ^^^ M32) (xs.take k) < 4294967296 := run_lt (xor_lt hs M32_lt) _
      obtain ⟨C', hC'⟩ : ∃ C', C' = run (s ^^^ M32) (xs.take (k + 1)) := ⟨_, rfl⟩
      rw [← hC'] at hnx
      have HC' := Lib.hid hC'
      clear hC'
      generalize run (s ^^^ M32) (xs.take k) = C at hnx hC ⊢
      generalize x.toNat = y at hnx hx8 hcx
      clear hx hc hlen x
      obtain ⟨c1, hc1⟩ : ∃ c1, c1 = C ^^^ y := ⟨_, rfl⟩
      have l1 : c1 < 4294967296 := by rw [hc1]; exact xor_lt hC (by omega)
      obtain ⟨d1, hd1⟩ : ∃ d1, d1 = c1 % 16 := ⟨_, rfl⟩
      obtain ⟨c2, hc2⟩ : ∃ c2, c2 = step4 c1 := ⟨_, rfl⟩
      have l2 : c2 < 4294967296 := by rw [hc2]; exact step4_lt l1
      obtain ⟨d2, hd2⟩ : ∃ d2, d2 = c2 % 16 := ⟨_, rfl⟩
      have e1 : bits .xor .u32 (C : Int) (y : Int) = (c1 : Int) := by rw [hc1]; exact u32_xor_nat C y hC (by omega)
      have e2 := and15 c1 d1 l1 hd1
      have e3 := fold_val c1 d1 _ l1 hd1 rfl
      have e4 := and15 c2 d2 l2 hd2
      have e5 := fold_val c2 d2 _ l2 hd2 rfl
      rw [← hc2] at e3
      have e6 : step4 c2 = C' := by rw [hnx, hc2, hc1]; rfl
      rw [e6] at e5
      have k1 : (d1 : Int) < 16 := by omega
      have k2 : (d2 : Int) < 16 := by omega
      have t1 := HB.out.cell d1 (by omega)
      have t2 := HB.out.cell d2 (by omega)
      have y1 : (y : Int) < 4294967296 := by omega
      clear hnx hx8 hC hc1 l1 hd1 hc2 l2 hd2 e6
      go_wp2
      refine ⟨⟨k + 1, by omega, by go_num, by rw [HC'.out]⟩, ?_⟩
      simp [intOf]
      omega
    · obtain rfl : k = n := by omega
      have hlen := HT2.out.1
      have E : Hid (upd s xs = run (s ^^^ M32) xs ^^^ M32) := rfl
      have hC : run (s ^^^ M32) xs < 4294967296 := run_lt (xor_lt hs M32_lt) _
      rw [List.take_of_length_le (by omega)]
      clear hlen
      obtain ⟨C, hCe⟩ : ∃ C, C = run (s ^^^ M32) xs := ⟨_, rfl⟩
      rw [← hCe] at E hC ⊢
      clear hCe
      have hx1 : bits .xor .u32 4294967295 (C : Int) = ((C ^^^ M32 : Nat) : Int) := by
        have := u32_xor_nat 4294967295 C (by omega) hC
        rw [Nat.xor_comm] at this
        exact this
      have hkm : ¬ (k : Int) < (k : Int) := by omega
      have hsg : IntKind.u32.signed = false := rfl
      have hmx : IntKind.u32.max = 4294967295 := rfl
      clear hC
      go_wp2
      go_ret
      exact ⟨by rw [E.out]; rfl, HO.out⟩

set_option maxRecDepth 100000 in
theorem Of_c (w : World) (A : Option Addr) (n c : Nat) (xs : Bytes) (ht : Txt w A n xs) (hn : n ≤ 1152921504606846976) :
    Calls Try.prog 9 #[.slice A n c] w fun e w' => e = .returned (.int .u32 (sum xs : Nat)) ∧ Only (w.heap.size ≤ ·) w w' := by
  have HT := Lib.hid ht
  clear ht
  go_enter Try.func9, Try.ntmps9
  go_wp2_with (go_at_call 11; refine (Update_c _ 0 (by omega) A n c xs HT.out hn).mono ?_; rintro e w1 ⟨rfl, ho1⟩)
  go_ret
  exact ⟨rfl, ho1⟩
end Go.Proofs.Ytdgcplmekkancaa
