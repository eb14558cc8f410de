/-
  The document's Put, Take, Skip.
-/
import Derived.Test.YtmkpcdcdhheokaaRefs
set_option linter.unusedVariables false
namespace Go.Proofs.Ytmkpcdcdhheokaa
open Go.RowKit

theorem St.parts {M : Nat} {w : World} {v : Value} {c : Cur} (h : St M w v c) : ∃ A cap, v = .agg #[.slice A c.b.length cap, .int .i64 c.at_, .bool c.sp] ∧ Src w (.slice A c.b.length cap) c.b := by
  obtain ⟨_, A, cap, h1, h2, _⟩ := h
  exact ⟨A, cap, h1, h2⟩
theorem one_cell (w : World) (t : TypeId) (v : Value) : ∀ j u, [v][j]? = some u → (w.alloc (.cells #[v] t)).cell? ((⟨w.heap.size, 0, none⟩ : Addr).add j) = some u := by
  intro j u hu
  rw [Addr.add_mid, Nat.zero_add, (Blk.new w t [v]).cell]
  exact hu
theorem byte_one (z : Nat) : Value.int .u8 ((z : Int) % 256) = .int .u8 ((UInt8.ofNat (z % 256)).toNat : Nat) := by
  rw [UInt8.toNat_ofNat']
  congr 1
  omega
theorem Txt.apart {w : World} {ad : Addr} {n : Nat} {xs : Bytes} {g : Nat} {t : TypeId} {cs : List Value} (h : Txt w (some ad) n xs) (hn : 0 < n) (hb : Blk w g t cs) (hc : ∀ u ∈ cs, ∀ x, u ≠ .int .u8 x) : ad.block ≠ g := by
  rintro rfl
  obtain ⟨ad', x, e, _, hcell⟩ := h.at_ hn
  cases e
  rw [show ad.add 0 = ad by unfold Addr.add; simp] at hcell
  unfold Blk at hb
  unfold World.cell? at hcell
  rw [hb] at hcell
  have hcell' : (if ad.spot.isSome = true then none else cs.toArray[ad.off]?) = some (Value.int .u8 (x.toNat : Nat)) := hcell
  split at hcell'
  · cases hcell'
  · rw [List.getElem?_toArray] at hcell'
    exact hc _ (List.mem_of_getElem? hcell') _ rfl
theorem Src.apart {w w' : World} {v : Value} {xs : Bytes} {g : Nat} {t : TypeId} {cs : List Value} (h : Src w v xs) (hb : Blk w g t cs) (hc : ∀ u ∈ cs, ∀ x, u ≠ .int .u8 x) (ho : Only (· = g) w w') : Src w' v xs := by
  obtain ⟨A, c, h1, h2, h3⟩ := h
  exact ⟨A, c, h1, h2.only ho (fun ad hn e hf => by subst e; exact h2.apart hn hb hc hf), h3⟩
theorem St.apart {M : Nat} {w w' : World} {v : Value} {c : Cur} {g : Nat} {t : TypeId} {cs : List Value} (h : St M w v c) (hb : Blk w g t cs) (hc : ∀ u ∈ cs, ∀ x, u ≠ .int .u8 x) (ho : Only (· = g) w w') : St M w' v c := by
  obtain ⟨h1, A, cap, h2, h3, h4⟩ := h
  exact ⟨h1, A, cap, h2, h3.apart hb hc ho, h4⟩
theorem three_no (A : Option Addr) (n cap : Nat) (a : Int) (sp : Bool) : ∀ u ∈ [Value.slice A n cap, .int .i64 a, .bool sp], ∀ x, u ≠ .int .u8 x := by
  intro u hu x e
  subst e
  simp at hu
/-- A state stored behind a call. -/
theorem Box.stored {w w2 : World} {a b c x y z : Value} (h : Box w w2 a b c) : Only (· = w.heap.size + 1) w2 (((w2.setCell ⟨w.heap.size + 1, 0, none⟩ x).setCell ⟨w.heap.size + 1, 1, none⟩ y).setCell ⟨w.heap.size + 1, 2, none⟩ z) ∧ Only (w.heap.size ≤ ·) w (((w2.setCell ⟨w.heap.size + 1, 0, none⟩ x).setCell ⟨w.heap.size + 1, 1, none⟩ y).setCell ⟨w.heap.size + 1, 2, none⟩ z) :=
  ⟨((Only.setCell (Only.refl (· = w.heap.size + 1) w2) rfl _).setCell rfl _).setCell rfl _, ((h.2.2.1.setCell (Nat.le_succ _) _).setCell (Nat.le_succ _) _).setCell (Nat.le_succ _) _⟩
theorem Box.spoiled {w w2 : World} {a b c : Value} (h : Box w w2 a b c) (u x y z : Value) : Only (w.heap.size ≤ ·) w ((((w2.setCell ⟨w.heap.size, 2, none⟩ u).setCell ⟨w.heap.size + 1, 0, none⟩ x).setCell ⟨w.heap.size + 1, 1, none⟩ y).setCell ⟨w.heap.size + 1, 2, none⟩ z) :=
  (((h.2.2.1.setCell (Nat.le_refl _) _).setCell (Nat.le_succ _) _).setCell (Nat.le_succ _) _).setCell (Nat.le_succ _) _
/-- The row of bytes in the making. -/
def Row (w1 wr : World) (v : Value) (xs : Bytes) : Prop := wr.ownsRow w1.heap.size 5 1 v xs.length (cb xs) ∧ Only (w1.heap.size ≤ ·) w1 wr

set_option maxRecDepth 100000 in
set_option maxHeartbeats 1600000 in
theorem rPut_c (M : Nat) (w : World) (hM : M ≤ w.heap.size) (v : Value) (c : Cur) (h : St M w v c) (hc : c.b.length ≤ 1048576) (n k : Int) (h1 : -9223372036854775808 ≤ n) (h2 : n ≤ 9223372036854775807) :
    Calls Try.prog 12 #[v, .int .i64 n, .int .i64 k] w fun e w' => ∃ v', e = .returned v' ∧ St M w' v' (c.put n k) ∧ Only (w.heap.size ≤ ·) w w' := by
  have HS := Lib.hid h
  obtain ⟨A, cap, rfl, hs⟩ := h.parts
  have HWF := Lib.hid h.1
  have HSrc := Lib.hid hs
  clear h hs
  by_cases hfit : fits n k = true
  · have HC : Hid (∀ W : World, Calls Try.prog 20 #[.int .i64 n, .int .i64 k] W fun e w' => e = .returned (.bool true) ∧ W = w') := fun W => (rFits_c W n k h1 h2).mono fun e w' ⟨h, h'⟩ => ⟨by rw [h, hfit], h'⟩
    have HP : Hid (c.put n k = c.write (le n.toNat k.toNat)) := by show _ = _; rw [Cur.put, if_pos hfit]
    obtain ⟨a, m, rfl, rfl, m1, m8, ha⟩ := fits_parts hfit
    rw [Int.toNat_natCast, Int.toNat_natCast] at HP
    obtain ⟨i0, hi0, hz0, hz1, hz2⟩ := info_parts info8
    have HI := Lib.hid (And.intro hi0 (And.intro hz0 (And.intro hz1 hz2)))
    clear hfit hi0 hz0 hz1 hz2
    have HC2 := Lib.hid hc
    clear hc
    go_enter Try.func12, Try.ntmps12
    have HB := Lib.hid (Box.new w (.slice A c.b.length cap) (.int .i64 c.at_) (.bool c.sp))
    go_wp2_with (first | (go_at_call 20; refine (HC.out _).mono ?_; rintro e w' ⟨rfl, rfl⟩))
    generalize hw1 : (w.alloc (.cells #[.slice A c.b.length cap, .int .i64 c.at_, .bool c.sp] 29)).alloc (.cells #[.slice none 0 0, .int .i64 0, .bool false] 29) = w1 at HB ⊢
    clear hw1
    go_loopw [8, 7, 1] (fun i v m' wr => ∃ j : Nat, j ≤ m ∧ i = .int .i64 j ∧ m' = .int .i64 (a / 256 ^ j : Nat) ∧ Row w1 wr v (le a j)) (fun i _ _ _ => m - (intOf i).toNat)
    case atStart => exact ⟨0, Nat.zero_le _, rfl, by simp, World.ownsRow_nil _ _ _ _, Only.refl _ _⟩
    case round =>
      obtain ⟨j, hj, rfl, rfl, hrow⟩ := hrel
      have HR := Lib.hid hrow
      clear hrow
      by_cases hlt : j < m
      · have hlt' : (j : Int) < (m : Int) := by omega
        have HZ : Hid (a / 256 ^ (j + 1) = a / 256 ^ j / 256) := by show _ = _; rw [Nat.div_div_eq_div_mul, Nat.pow_succ]
        have HSn := Lib.hid (le_snoc a j)
        have zl : a / 256 ^ j ≤ a := Nat.div_le_self _ _
        generalize a / 256 ^ j = z at HZ HSn zl ⊢
        have zl' : (z : Int) ≤ 9223372036854775807 := by omega
        have Hlen : Hid ((le a j).length = j) := le_length a j
        have HB2 : Hid (w1.heap.size ≤ (wr.alloc (.cells #[.int .u8 ((z : Int) % 256)] 5)).heap.size) := by
          have := HR.out.2.size
          show _ ≤ _
          simp
          omega
        go_wp2_with (at_builtin; refine wpList_append_own _ rfl (.tmp 20) (.tmp 24) 27 rfl w1.heap.size 5 i0 _ 1 1 Try.underlying27 HI.out.1 HI.out.2.1 HI.out.2.2.1 HI.out.2.2.2 (by rfl) (by omega) _ _ _ rfl (HR.out.1.alloc _) ⟨wr.heap.size, 0, none⟩ 1 1 [.int .u8 ((z : Int) % 256)] rfl (by rfl) (one_cell wr 5 _) (by simp [Value.oneCell']) (by have := Hlen.out; simp only [maxLen]; omega) (by have := Hlen.out; omega) HB2.out ?_; intro v' w' ho' hg' _)
        have HN : Hid (Row w1 w' v' (le a (j + 1))) := by
          show Row _ _ _ _
          rw [byte_one] at ho' 
          refine ⟨?_, (HR.out.2.alloc (fun _ h => h) _).grown hg' (fun _ h => h) (fun g hg => (HR.out.1.lt g hg).1)⟩
          rw [HSn.out, cb_append, List.length_append]
          exact ho'
        refine ⟨⟨j + 1, by omega, by go_num, by rw [HZ.out]; simp, HN.out⟩, ?_⟩
        simp [intOf]
        omega
      · obtain rfl : j = m := by omega
        have hlt' : ¬ (j : Int) < (j : Int) := by omega
        obtain ⟨q0, q1, q2, q3⟩ := (HB.out.later HR.out.2).1.three
        obtain ⟨r0, r1, r2, r3⟩ := (HB.out.later HR.out.2).2.1.three
        have HSw : Hid (St M wr (.agg #[.slice A c.b.length cap, .int .i64 c.at_, .bool c.sp]) c) := HS.out.later (HB.out.later HR.out.2).2.2.1
        have HV := Lib.hid (Src.own HR.out.1)
        have HMw : Hid (M ≤ wr.heap.size) := Nat.le_trans hM (HB.out.later HR.out.2).2.2.1.size
        go_wp2_with (first | (go_at_call 14; refine (rBytes_c M _ HMw.out _ c HSw.out HC2.out _ _ HV.out).mono ?_; rintro e w2 ⟨v2, rfl, hst, ho2⟩; have HB2 := Lib.hid ((HB.out.later HR.out.2).later ho2); obtain ⟨r0b, r1b, r2b, r3b⟩ := HB2.out.2.1.three; have HST := Lib.hid hst; clear ho2; obtain ⟨A2, cap2, rfl, hs2⟩ := hst.parts; clear hst hs2))
        refine bodyPost_ret (v := .agg #[.slice A2 (c.write (le a j)).b.length cap2, .int .i64 (c.write (le a j)).at_, .bool (c.write (le a j)).sp]) (by simp [results, Try.results12, go_sem, r0b, r1b, r2b]) rfl ⟨_, rfl, ?_, ?_⟩
        · rw [HP.out]
          exact HST.out.apart HB2.out.2.1 (three_no _ _ _ _ _) HB2.out.stored.1
        · exact HB2.out.stored.2
  · have HC : Hid (∀ W : World, Calls Try.prog 20 #[.int .i64 n, .int .i64 k] W fun e w' => e = .returned (.bool false) ∧ W = w') := fun W => (rFits_c W n k h1 h2).mono fun e w' ⟨h, h'⟩ => ⟨by rw [h]; simpa using hfit, h'⟩
    have HP : Hid (c.put n k = c.spoil) := by show _ = _; rw [Cur.put, if_neg hfit]
    clear hfit
    go_enter Try.func12, Try.ntmps12
    have HB := Lib.hid (Box.new w (.slice A c.b.length cap) (.int .i64 c.at_) (.bool c.sp))
    go_wp2_with (fail)
    generalize hw1 : (w.alloc (.cells #[.slice A c.b.length cap, .int .i64 c.at_, .bool c.sp] 29)).alloc (.cells #[.slice none 0 0, .int .i64 0, .bool false] 29) = w1 at HB ⊢
    clear hw1
    obtain ⟨q0, q1, q2, q3⟩ := HB.out.1.three
    obtain ⟨r0, r1, r2, r3⟩ := HB.out.2.1.three
    go_wp2_with (first | (go_at_call 20; refine (HC.out _).mono ?_; rintro e w' ⟨rfl, rfl⟩))
    refine bodyPost_ret (v := .agg #[.slice A c.b.length cap, .int .i64 c.at_, .bool true]) (by simp [results, Try.results12, go_sem, r0, r1, r2]) rfl ⟨_, rfl, ?_, ?_⟩
    · rw [HP.out]
      exact HS.out.spoiled (HB.out.spoiled _ _ _ _)
    · exact HB.out.spoiled _ _ _ _

end Go.Proofs.Ytmkpcdcdhheokaa
