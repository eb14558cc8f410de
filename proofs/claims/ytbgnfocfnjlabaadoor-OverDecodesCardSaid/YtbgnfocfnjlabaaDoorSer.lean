/-
  A page as plain bytes: the head, the entries, noughts; what a writer makes of them. No memory here.
-/
import Derived.Test.YtbgnfocfnjlabaaDoorPhf
import Derived.Test.YtbgnfocfnjlabaaDoorHeq
import Derived.Test.YtbgnfocfnjlabaaDoorGb
set_option linter.unusedVariables false
namespace Go.Proofs.YtbgnfocfnjlabaaDoor

def serI (g : Int) (i : It) : Bytes :=
  le i.1.length 1 ++ (le (if far i.2.1.length i.2.2.2 = true then 1 else 0) 1 ++ (le (long i.2.1.length i.2.2.1 i.2.2.2).toNat 2 ++ (i.1 ++ (if far i.2.1.length i.2.2.2 = true then le i.2.2.2.toNat (tr g 4 8 8).toNat else i.2.1))))
def serK (g : Int) (k : Kd) : Bytes := le k.1.length 1 ++ (k.1 ++ le k.2.toNat (tr g 4 8 8).toNat)
def headB (k g n x : Nat) : Bytes := le k 1 ++ (le g 1 ++ (le n 2 ++ (List.replicate (gap g).toNat 0 ++ le x (tr g 4 8 8).toNat)))
/-- Bytes, filled up with noughts. -/
def padB (z : Nat) (p : Bytes) : Bytes := p ++ List.replicate (z - p.length) 0
theorem padB_length {z : Nat} {p : Bytes} (h : p.length ≤ z) : (padB z p).length = z := by unfold padB; rw [List.length_append, List.length_replicate]; omega
/-- A writer behind these bytes. -/
def fill (z : Nat) (p : Bytes) : Cur := ⟨padB z p, p.length, false⟩
theorem over_pad {z : Nat} {p xs : Bytes} (h : p.length + xs.length ≤ z) : over (padB z p) p.length xs = padB z (p ++ xs) := by
  unfold over padB
  rw [List.take_left, List.drop_append, List.drop_eq_nil_of_le (by omega), List.drop_replicate, List.nil_append, List.length_append, List.append_assoc]
  congr 3
  omega
theorem fill_write {z : Nat} {p xs : Bytes} (h : p.length + xs.length ≤ z) : (fill z p).write xs = fill z (p ++ xs) := by
  have hh : (fill z p).has (xs.length : Int) = true := Cur.has_of rfl (by show p.length + xs.length ≤ (padB z p).length; rw [padB_length (by omega)]; exact h)
  unfold Cur.write
  rw [if_pos hh]
  unfold fill
  simp only [over_pad h, List.length_append]
theorem fill_put {z : Nat} {p : Bytes} {n w : Int} {a k : Nat} (hf : fits n w = true) (ha : n.toNat = a) (hk : w.toNat = k) (h : p.length + k ≤ z) : (fill z p).put n w = fill z (p ++ le a k) := by
  unfold Cur.put
  rw [if_pos hf, ha, hk]
  exact fill_write (by rw [le_length]; exact h)
theorem fill_take {z : Nat} {p : Bytes} {n : Int} {k : Nat} (hn : n = (k : Int)) (h : p.length + k ≤ z) : (fill z p).take n = fill z (p ++ List.replicate k 0) := by
  subst hn
  have hh : (fill z p).has (k : Int) = true := Cur.has_of rfl (by show p.length + k ≤ (padB z p).length; rw [padB_length (by omega)]; exact h)
  unfold Cur.take
  rw [if_pos hh]
  unfold fill
  simp only [Int.toNat_natCast]
  have e : padB z p = padB z (p ++ List.replicate k 0) := by
    unfold padB
    rw [List.append_assoc, List.replicate_append_replicate, List.length_append, List.length_replicate]
    congr 2
    omega
  rw [← e, List.length_append, List.length_replicate]
theorem fits_nat {n k : Nat} {w : Int} (hw : w = (k : Int)) (h1 : 1 ≤ k) (h8 : k ≤ 8) (h : n < 256 ^ k) : fits (n : Int) w = true := by
  subst hw
  unfold fits wide
  simp only [Bool.and_eq_true, decide_eq_true_eq, Int.toNat_natCast]
  refine ⟨⟨by omega, by omega⟩, by omega, ?_⟩
  have : n / 256 ^ k = 0 := Nat.div_eq_of_lt h
  have h2 : ((n / 256 ^ k : Nat) : Int) = 0 := by omega
  rw [Int.natCast_ediv, Int.natCast_pow] at h2
  exact h2
theorem fill_put1 {z : Nat} {p : Bytes} {n : Nat} (hn : n < 256) (h : p.length + 1 ≤ z) : (fill z p).put (n : Int) 1 = fill z (p ++ le n 1) :=
  fill_put (k := 1) (fits_nat (w := 1) (k := 1) rfl (by decide) (by decide) (by omega)) (Int.toNat_natCast _) rfl h
theorem fill_put2 {z : Nat} {p : Bytes} {n : Nat} (hn : n < 65536) (h : p.length + 2 ≤ z) : (fill z p).put (n : Int) 2 = fill z (p ++ le n 2) :=
  fill_put (k := 2) (fits_nat (w := 2) (k := 2) rfl (by decide) (by decide) (by omega)) (Int.toNat_natCast _) rfl h
theorem fill_put_one {z : Nat} {p : Bytes} (h : p.length + 1 ≤ z) : (fill z p).put 1 1 = fill z (p ++ le 1 1) := fill_put1 (n := 1) (by decide) h
theorem fill_put_nil {z : Nat} {p : Bytes} (h : p.length + 1 ≤ z) : (fill z p).put 0 1 = fill z (p ++ le 0 1) := fill_put1 (n := 0) (by decide) h
theorem idw {g : Int} (hg : gen g = true) : ∃ k : Nat, tr g 4 8 8 = (k : Int) ∧ (tr g 4 8 8).toNat = k ∧ 4 ≤ k ∧ k ≤ 8 := by
  rcases (gen_iff g).1 hg with rfl | rfl | rfl
  · exact ⟨4, rfl, rfl, by decide, by decide⟩
  · exact ⟨8, rfl, rfl, by decide, by decide⟩
  · exact ⟨8, rfl, rfl, by decide, by decide⟩
theorem headB_length {k n x : Nat} {g : Nat} (hg : gen (g : Int) = true) : (headB k g n x).length = (tr (g : Int) 8 16 16).toNat := by
  unfold headB
  simp only [List.length_append, le_length, List.length_replicate]
  rcases gen_three hg with rfl | rfl | rfl <;> rfl
/-- What start makes of a head that may be. -/
theorem st_fill {k g n x : Nat} (hg : gen (g : Int) = true) (hk : k < 256) (hn : n < 65536) (hx : fits (x : Int) (tr (g : Int) 4 8 8) = true) : stC k g n x = fill 256 (headB k g n x) := by
  have e0 : Cur.make 256 = fill 256 [] := rfl
  have hg3 := gen_three hg
  have hw : ∃ u, gap (g : Int) = ((u : Nat) : Int) ∧ (gap (g : Int)).toNat = u ∧ u ≤ 4 := by
    rcases hg3 with rfl | rfl | rfl
    · exact ⟨0, rfl, rfl, by decide⟩
    · exact ⟨4, rfl, rfl, by decide⟩
    · exact ⟨4, rfl, rfl, by decide⟩
  obtain ⟨u, hu, hu2, hu4⟩ := hw
  obtain ⟨z, hz, hz2, hz4, hz8⟩ := idw hg
  unfold stC headB
  rw [e0]
  rw [fill_put1 (by omega) (by decide)]
  rw [fill_put1 (by omega) (by simp [le_length])]
  rw [fill_put2 (by omega) (by simp [le_length])]
  rw [fill_take (k := u) hu (by simp [le_length]; omega)]
  rw [fill_put (a := x) (k := z) hx (Int.toNat_natCast _) hz2 (by simp [le_length]; omega)]
  rw [hu2, hz2]
  simp only [List.nil_append, List.append_assoc]
/-- A writer behind an item that may be. -/
theorem it_fill {z : Nat} {p : Bytes} {g : Int} {i : It} (ho : okay g i.1.length i.2.1.length i.2.2.1 i.2.2.2 = true) (hl : p.length + (serI g i).length ≤ z) :
    itC (fill z p) g i.1.length i.2.1.length i.2.2.1 i.2.2.2 i.1 i.2.1 = fill z (p ++ serI g i) := by
  obtain ⟨key, val, s, r⟩ := i
  unfold okay putOk keyOk at ho
  simp only [Bool.and_eq_true, decide_eq_true_eq] at ho
  obtain ⟨hg, ⟨hk1, hk2⟩, hlg, hp⟩ := ho
  obtain ⟨k, hk, hkk, hk4, hk8⟩ := idw hg
  have hkey : key.length < 256 := by have : tr g 16 20 24 ≤ 24 := by rcases (gen_iff g).1 hg with rfl | rfl | rfl <;> decide
                                     omega
  have hlong : ∃ l : Nat, long val.length s r = (l : Int) ∧ l < 65536 := by
    have : tr g 400 800 1600 ≤ 1600 := by rcases (gen_iff g).1 hg with rfl | rfl | rfl <;> decide
    have h0 : 0 ≤ long val.length s r := by unfold long; split <;> omega
    exact ⟨(long val.length s r).toNat, by omega, by omega⟩
  obtain ⟨l, hl1, hl2⟩ := hlong
  unfold serI at hl ⊢
  unfold itC
  simp only [hl1, Int.toNat_natCast] at hl ⊢
  simp only [List.length_append, le_length] at hl
  by_cases hf : far val.length r = true
  · simp only [if_pos hf] at hl ⊢
    rw [hkk, le_length] at hl
    have hr : ∃ a : Nat, r = (a : Int) ∧ a < 256 ^ k := by
      unfold far at hf
      rw [decide_eq_true_eq] at hf
      rcases hp with ⟨h1, h2⟩ | ⟨_, h1, h2, _, _⟩
      · exact ⟨0, h1, Nat.pow_pos (by decide)⟩
      · refine ⟨r.toNat, by omega, ?_⟩
        have : 256 ^ 4 ≤ 256 ^ k := Nat.pow_le_pow_right (by decide) hk4
        omega
    obtain ⟨a, rfl, ha⟩ := hr
    rw [fill_put1 (by omega) (by omega)]
    rw [fill_put_one (by simp [le_length]; omega)]
    rw [fill_put2 (by omega) (by simp [le_length]; omega)]
    rw [fill_write (by simp [le_length]; omega)]
    rw [hk, fill_put (a := a) (k := k) (fits_nat rfl (by omega) hk8 ha) (Int.toNat_natCast _) (Int.toNat_natCast _) (by simp [le_length]; omega)]
    simp only [List.append_assoc, Int.toNat_natCast]
  · simp only [if_neg hf] at hl ⊢
    rw [fill_put1 (by omega) (by omega)]
    rw [fill_put_nil (by simp [le_length]; omega)]
    rw [fill_put2 (by omega) (by simp [le_length]; omega)]
    rw [fill_write (by simp [le_length]; omega)]
    rw [fill_write (by simp [le_length]; omega)]
    simp only [List.append_assoc]
/-- What the program puts behind the head: items, then kids. -/
def kdC (g : Int) (c : Cur) (k : Kd) : Cur := ((c.put k.1.length 1).write k.1).put k.2 (tr g 4 8 8)
def itD (g : Int) (c : Cur) (i : It) : Cur := itC c g i.1.length i.2.1.length i.2.2.1 i.2.2.2 i.1 i.2.1
theorem kd_fill {z : Nat} {p : Bytes} {g : Int} {y : Kd} (hg : gen g = true) (h1 : 0 ≤ y.2) (h2 : y.2 < 16384) (h3 : y.1.length < 256) (hl : p.length + (serK g y).length ≤ z) :
    kdC g (fill z p) y = fill z (p ++ serK g y) := by
  obtain ⟨key, r⟩ := y
  obtain ⟨k, hk, hkk, hk4, hk8⟩ := idw hg
  obtain ⟨a, rfl⟩ : ∃ a : Nat, r = (a : Int) := ⟨r.toNat, by simp only at h1; omega⟩
  have : 256 ^ 4 ≤ 256 ^ k := Nat.pow_le_pow_right (by decide) hk4
  simp only at h1 h2 h3
  unfold serK at hl ⊢
  unfold kdC
  simp only [List.length_append, le_length, hkk] at hl
  simp only
  rw [fill_put1 (by omega) (by omega)]
  rw [fill_write (by simp [le_length]; omega)]
  rw [hk, fill_put (a := a) (k := k) (fits_nat rfl (by omega) hk8 (by omega)) (Int.toNat_natCast _) (Int.toNat_natCast _) (by simp [le_length]; omega)]
  simp only [List.append_assoc, Int.toNat_natCast]
theorem serI_room {g : Int} {i : It} (ho : okay g i.1.length i.2.1.length i.2.2.1 i.2.2.2 = true) : ((serI g i).length : Int) = room g i.1.length i.2.1.length i.2.2.2 := by
  unfold okay at ho
  simp only [Bool.and_eq_true] at ho
  obtain ⟨k, hk, hkk, hk4, hk8⟩ := idw ho.1
  unfold serI room
  rw [if_pos ho.1]
  simp only [List.length_append, le_length]
  by_cases hf : far i.2.1.length i.2.2.2 = true
  · simp only [if_pos hf, le_length, hk]
    omega
  · simp only [if_neg hf]
    omega
theorem serK_room {g : Int} (hg : gen g = true) (y : Kd) : ((serK g y).length : Int) = kid g y.1.length := by
  obtain ⟨k, hk, hkk, hk4, hk8⟩ := idw hg
  unfold serK kid
  rw [if_pos hg]
  simp only [List.length_append, le_length, hk]
  omega
theorem its_fill {z : Nat} {g : Int} : ∀ {l : List It} {p : Bytes}, (∀ i ∈ l, okay g i.1.length i.2.1.length i.2.2.1 i.2.2.2 = true) → p.length + (l.flatMap (serI g)).length ≤ z →
    l.foldl (itD g) (fill z p) = fill z (p ++ l.flatMap (serI g))
  | [], p, _, _ => by simp
  | i :: l, p, ho, hl => by
    rw [List.flatMap_cons, List.length_append] at hl
    rw [List.foldl_cons, itD, it_fill (ho i (by simp)) (by omega), its_fill (fun j hj => ho j (by simp [hj])) (by rw [List.length_append]; omega), List.flatMap_cons, List.append_assoc]
theorem kds_fill {z : Nat} {g : Int} (hg : gen g = true) : ∀ {l : List Kd} {p : Bytes}, (∀ i ∈ l, 0 ≤ i.2 ∧ i.2 < 16384 ∧ i.1.length < 256) → p.length + (l.flatMap (serK g)).length ≤ z →
    l.foldl (kdC g) (fill z p) = fill z (p ++ l.flatMap (serK g))
  | [], p, _, _ => by simp
  | i :: l, p, ho, hl => by
    rw [List.flatMap_cons, List.length_append] at hl
    obtain ⟨h1, h2, h3⟩ := ho i (by simp)
    rw [List.foldl_cons, kd_fill hg h1 h2 h3 (by omega), kds_fill hg (fun j hj => ho j (by simp [hj])) (by rw [List.length_append]; omega), List.flatMap_cons, List.append_assoc]
theorem sum_its {g : Int} : ∀ {l : List It}, (∀ i ∈ l, okay g i.1.length i.2.1.length i.2.2.1 i.2.2.2 = true) → ((l.flatMap (serI g)).length : Int) = (l.map (irm g)).sum
  | [], _ => rfl
  | i :: l, ho => by
    have h1 := serI_room (ho i (by simp))
    have h2 := sum_its (l := l) fun j hj => ho j (by simp [hj])
    rw [List.flatMap_cons, List.length_append, List.map_cons, List.sum_cons, ← h2]
    unfold irm
    omega
theorem sum_kds {g : Int} (hg : gen g = true) : ∀ {l : List Kd}, ((l.flatMap (serK g)).length : Int) = (l.map (krm g)).sum
  | [] => rfl
  | i :: l => by
    have h1 := serK_room hg i
    have h2 := sum_kds hg (l := l)
    rw [List.flatMap_cons, List.length_append, List.map_cons, List.sum_cons, ← h2]
    unfold krm
    omega
end Go.Proofs.YtbgnfocfnjlabaaDoor
