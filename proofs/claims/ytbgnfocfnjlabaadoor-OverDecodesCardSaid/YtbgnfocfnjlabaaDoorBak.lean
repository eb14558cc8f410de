/-
  A page that was made is read as it was. No memory here.
-/
import Derived.Test.YtbgnfocfnjlabaaDoorDec
set_option linter.unusedVariables false
namespace Go.Proofs.YtbgnfocfnjlabaaDoor

theorem oth_put4 (xs : Bytes) (a : Nat) (h : a + 4 ≤ xs.length) : oth (put4 xs a) a = oth xs a := by
  unfold oth put4
  congr 1
  · rw [List.take_left' (by simp; omega)]
  · rw [← List.append_assoc, List.drop_left' (by simp [le4_length]; omega)]
theorem four_put4 (xs : Bytes) (a : Nat) (h : a + 4 ≤ xs.length) : ((put4 xs a).drop a).take 4 = le4 (sum (oth xs a)) := by
  unfold put4
  rw [List.drop_left' (by simp; omega), List.take_left' (le4_length _)]
theorem rm4_of {n a : Nat} (h : a + 4 ≤ n) : rm4 n (a : Int) = true := by simp only [rm4, decide_eq_true_eq]; omega
theorem sealed_put4 (xs : Bytes) (a : Nat) (h : a + 4 ≤ xs.length) : isSealed (put4 xs a) (a : Int) = true := by
  unfold isSealed
  rw [put4_length xs a h, rm4_of h, Int.toNat_natCast, oth_put4 xs a h, four_put4 xs a h]
  simp
theorem same_put4 (xs : Bytes) (a : Nat) (h : a + 4 ≤ xs.length) : isSealed xs (a : Int) = decide (xs = put4 xs a) := by
  unfold isSealed
  rw [rm4_of h, Int.toNat_natCast, Bool.true_and]
  rw [decide_eq_decide]
  constructor
  · intro e
    unfold put4
    rw [e]
    have h1 : xs.drop (a + 4) = (xs.drop a).drop 4 := by rw [List.drop_drop]
    rw [h1, List.take_append_drop, List.take_append_drop]
  · intro e
    have := four_put4 xs a h
    rw [← e] at this
    exact this.symm

/-- A page's bytes: kind, generation, count, the sum's place, what comes next, the body. -/
structure Shape (b : Bytes) (k g n x : Nat) (T : Bytes) : Prop where
  eq : ∃ G : Bytes, G.length = (gap (g : Int)).toNat ∧ b = UInt8.ofNat k :: UInt8.ofNat g :: (le n 2 ++ (G ++ (le x (tr (g : Int) 4 8 8).toNat ++ T)))
  hk : kindOk (k : Int) = true
  hg : gen (g : Int) = true
  hn : n < 65536
  hx : x < 9223372036854775808
  hx1 : x < 256 ^ (tr (g : Int) 4 8 8).toNat
  hT : T.length = (tr (g : Int) 248 240 240).toNat
theorem kind_lt {k : Nat} (h : kindOk (k : Int) = true) : k < 256 := by
  unfold kindOk at h
  rw [decide_eq_true_eq] at h
  omega
theorem rnum_le {x w : Nat} (hw : w ≤ 8) (h : x < 9223372036854775808) (h1 : x < 256 ^ w) : rnum (le x w) = (x : Int) := by
  rw [rnum_of (by rw [le_length]; exact hw) (by rw [num_le _ _ h1]; exact h), num_le _ _ h1]
theorem Shape.facts {b : Bytes} {k g n x : Nat} {T : Bytes} (h : Shape b k g n x T) : b.length = 256 ∧ hdK b = k ∧ hdG b = g ∧ hdE b = 0 ∧ hdN b = n ∧ hdX b = x ∧ bodyOf b = T := by
  obtain ⟨⟨G, hG, hb⟩, hk, hg, hn, hx, hx1, hT⟩ := h
  have hg3 := gen_three hg
  have hK : hdK b = k := by
    rw [hb]
    show (UInt8.ofNat k).toNat = k
    have := kind_lt hk
    simp
    omega
  have hGG : hdG b = g := by
    rw [hb]
    show (UInt8.ofNat g).toNat = g
    simp
    omega
  have hlen : b.length = 256 := by
    rw [hb]
    simp only [List.length_cons, List.length_append, le_length, hG, hT]
    rcases hg3 with rfl | rfl | rfl <;> rfl
  have d2 : b.drop 2 = le n 2 ++ (G ++ (le x (tr (g : Int) 4 8 8).toNat ++ T)) := by rw [hb]; rfl
  have d4 : b.drop 4 = G ++ (le x (tr (g : Int) 4 8 8).toNat ++ T) := by
    rw [show (4 : Nat) = 2 + 2 from rfl, ← List.drop_drop, d2]
    exact List.drop_left' (le_length n 2)
  have e2 : (b.drop 2).take 2 = le n 2 := by rw [d2]; exact List.take_left' (le_length n 2)
  have dn : b.drop (nx0 g) = le x (tr (g : Int) 4 8 8).toNat ++ T := by
    have : nx0 g = 4 + G.length := by rw [hG]; rcases hg3 with rfl | rfl | rfl <;> rfl
    rw [this, ← List.drop_drop, d4]
    exact List.drop_left' rfl
  have hw : nx1 g - nx0 g = (tr (g : Int) 4 8 8).toNat ∧ (tr (g : Int) 4 8 8).toNat ≤ 8 ∧ nx1 g ≤ 256 ∧ nx0 g + (tr (g : Int) 4 8 8).toNat = (tr (g : Int) 8 16 16).toNat := by rcases hg3 with rfl | rfl | rfl <;> decide
  have en : (b.drop (nx0 g)).take (nx1 g - nx0 g) = le x (tr (g : Int) 4 8 8).toNat := by rw [dn, hw.1]; exact List.take_left' (le_length _ _)
  have rn : rnum ((b.drop (nx0 g)).take (nx1 g - nx0 g)) = (x : Int) := by rw [en]; exact rnum_le hw.2.1 hx hx1
  have hE : hdE b = 0 := by
    rw [hdE_eq]
    unfold rhdE
    rw [hK, hGG, hk, hg, if_neg (by omega), if_pos (show (true && true) = true from rfl), if_neg]
    rw [rn]
    omega
  obtain ⟨k0, k1, k2⟩ := hd_key (b := b) hg3 (by omega)
  have k3 := k2 (by rw [rn]; omega)
  refine ⟨hlen, hK, hGG, hE, ?_, ?_, ?_⟩
  · unfold hdN
    rw [hGG, k0, e2]
    exact num_le 2 n hn
  · unfold hdX
    rw [hGG]
    have := k3.2
    rw [rn] at this
    omega
  · unfold bodyOf
    rw [if_pos ⟨hE, hlen⟩, hGG, ← hw.2.2.2, ← List.drop_drop, dn]
    exact List.drop_left' (le_length _ _)
/-- A page as it is filled up, and sealed. -/
def wrapP (k g n x : Nat) (body : Bytes) : Bytes := if g = 1 then padB 256 (headB k g n x ++ body) else sealB (padB 256 (headB k g n x ++ body)) 4
theorem wrapP_shape {k g n x : Nat} {body : Bytes} (hk : kindOk (k : Int) = true) (hg : gen (g : Int) = true) (hn : n < 65536) (hx : x < 9223372036854775808) (hx1 : x < 256 ^ (tr (g : Int) 4 8 8).toNat) (hb : body.length ≤ (tr (g : Int) 248 240 240).toNat) :
    Shape (wrapP k g n x body) k g n x (padB (tr (g : Int) 248 240 240).toNat body) ∧ (g ≠ 1 → isSealed (wrapP k g n x body) 4 = true) := by
  have hg3 := gen_three hg
  have hk8 := kind_lt hk
  have hh : ∀ y : Nat, y < 256 → le y 1 = [UInt8.ofNat y] := fun y hy => by
    rw [le_cons]
    have : y % 256 = y := Nat.mod_eq_of_lt hy
    rw [this]
    rfl
  have hhl := headB_length (k := k) (n := n) (x := x) hg
  have hcap : (tr (g : Int) 8 16 16).toNat + (tr (g : Int) 248 240 240).toNat = 256 := by rcases hg3 with rfl | rfl | rfl <;> rfl
  have hraw : padB 256 (headB k g n x ++ body) = UInt8.ofNat k :: UInt8.ofNat g :: (le n 2 ++ (List.replicate (gap (g : Int)).toNat 0 ++ (le x (tr (g : Int) 4 8 8).toNat ++ padB (tr (g : Int) 248 240 240).toNat body))) := by
    unfold padB
    rw [List.length_append, hhl, show 256 - ((tr (g : Int) 8 16 16).toNat + body.length) = (tr (g : Int) 248 240 240).toNat - body.length by omega]
    unfold headB
    rw [hh k hk8, hh g (by omega)]
    simp only [List.append_assoc, List.cons_append, List.nil_append]
  have hT : (padB (tr (g : Int) 248 240 240).toNat body).length = (tr (g : Int) 248 240 240).toNat := padB_length hb
  unfold wrapP
  by_cases h1 : g = 1
  · subst h1
    rw [if_pos rfl, hraw]
    exact ⟨⟨⟨List.replicate (gap ((1 : Nat) : Int)).toNat 0, List.length_replicate, rfl⟩, hk, hg, hn, hx, hx1, hT⟩, fun h => absurd rfl h⟩
  · rw [if_neg h1]
    have hgap : (gap (g : Int)).toNat = 4 := by rcases hg3 with rfl | rfl | rfl <;> first | rfl | exact absurd rfl h1
    have hl : (padB 256 (headB k g n x ++ body)).length = 256 := padB_length (by rw [List.length_append, hhl]; omega)
    have hr4 : rm4 (padB 256 (headB k g n x ++ body)).length 4 = true := by rw [hl]; rfl
    have hs : sealB (padB 256 (headB k g n x ++ body)) 4 = put4 (padB 256 (headB k g n x ++ body)) 4 := by
      unfold sealB
      rw [if_pos hr4]
      rfl
    rw [hs]
    refine ⟨⟨⟨le4 (sum (oth (padB 256 (headB k g n x ++ body)) 4)), by rw [hgap]; rfl, ?_⟩, hk, hg, hn, hx, hx1, hT⟩, fun _ => sealed_put4 _ 4 (by omega)⟩
    unfold put4
    generalize le4 (sum (oth (padB 256 (headB k g n x ++ body)) 4)) = G
    rw [hraw, hgap]
    have e1 : le n 2 = [UInt8.ofNat (n % 256), UInt8.ofNat (n / 256 % 256)] := by
      rw [le_cons, le_cons]
      rfl
    rw [e1]
    rfl
/-- A reader at what was written. -/
theorem rd_le {L R : Bytes} {a n k : Nat} (h : L.drop a = le n k ++ R) (h1 : 1 ≤ k) (h8 : k ≤ 8) (hn : n < 256 ^ k) (hl : n < 9223372036854775808) :
    (⟨L, a, false⟩ : Cur).get (k : Int) = ⟨L, a + k, false⟩ ∧ (⟨L, a, false⟩ : Cur).val (k : Int) = n ∧ L.drop (a + k) = R ∧ a + k ≤ L.length := by
  have hlen := congrArg List.length h
  rw [List.length_drop, List.length_append, le_length] at hlen
  have hp : (L.drop a).take k = le n k := by rw [h]; exact List.take_left' (le_length _ _)
  have hnum : num ((L.drop a).take k) = n := by rw [hp]; exact num_le _ _ hn
  obtain ⟨g1, g2⟩ := cur_get (L := L) (a := a) (k := k) (by omega) h1 h8 (by rw [hnum]; exact hl)
  refine ⟨g1, by rw [g2, hnum], ?_, by omega⟩
  rw [← List.drop_drop, h]
  exact List.drop_left' (le_length _ _)
theorem rd_bytes {L R xs : Bytes} {a : Nat} (h : L.drop a = xs ++ R) (ha : a ≤ L.length) :
    (⟨L, a, false⟩ : Cur).take ((xs.length : Nat) : Int) = ⟨L, a + xs.length, false⟩ ∧ (⟨L, a, false⟩ : Cur).got ((xs.length : Nat) : Int) = xs ∧ L.drop (a + xs.length) = R ∧ a + xs.length ≤ L.length := by
  have hlen := congrArg List.length h
  rw [List.length_drop, List.length_append] at hlen
  have hle : a + xs.length ≤ L.length := by omega
  refine ⟨cur_take hle, ?_, ?_, hle⟩
  · have hh : (⟨L, a, false⟩ : Cur).has ((xs.length : Nat) : Int) = true := Cur.has_of rfl hle
    unfold Cur.got
    rw [if_pos hh, Int.toNat_natCast]
    show (L.drop a).take xs.length = xs
    rw [h]
    exact List.take_left' rfl
  · rw [← List.drop_drop, h]
    exact List.drop_left' rfl
theorem rdI_ser {g : Int} {i : It} (ho : okay g i.1.length i.2.1.length i.2.2.1 i.2.2.2 = true) (hu : unp i.2.1.length i.2.2.2 = false) {L R : Bytes} {a : Nat} (h : L.drop a = serI g i ++ R) :
    rdI g ⟨L, a, false⟩ = (i, ⟨L, a + (serI g i).length, false⟩) := by
  obtain ⟨key, val, s, r⟩ := i
  have hroom := serI_room ho
  unfold okay putOk keyOk at ho
  simp only [Bool.and_eq_true, decide_eq_true_eq] at ho hu
  obtain ⟨hg, ⟨hk1, hk2⟩, hlg, hp⟩ := ho
  obtain ⟨w, hw, hww, hw4, hw8⟩ := idw hg
  have t1 : tr g 16 20 24 ≤ 24 := by rcases (gen_iff g).1 hg with rfl | rfl | rfl <;> decide
  have t2 : tr g 400 800 1600 ≤ 1600 := by rcases (gen_iff g).1 hg with rfl | rfl | rfl <;> decide
  have hl0 : 0 ≤ long val.length s r := by unfold long; split <;> omega
  obtain ⟨l, hl1⟩ : ∃ l : Nat, long val.length s r = (l : Int) := ⟨(long val.length s r).toNat, by omega⟩
  unfold serI at h
  simp only [hl1, Int.toNat_natCast, List.append_assoc] at h
  obtain ⟨a1, a2, a3, a4⟩ := rd_le h (by decide) (by decide) (by omega) (by omega)
  obtain ⟨b1, b2, b3, b4⟩ := rd_le a3 (by decide) (by decide) (by split <;> decide) (by split <;> decide)
  obtain ⟨d1, d2, d3, d4⟩ := rd_le b3 (by decide) (by decide) (by omega) (by omega)
  obtain ⟨e1, e2, e3, e4⟩ := rd_bytes d3 d4
  unfold rdI
  simp only
  have i1 : (1 : Int) = ((1 : Nat) : Int) := rfl
  have i2 : (2 : Int) = ((2 : Nat) : Int) := rfl
  rw [i1, i2, a1, a2, b1, b2, d1, d2, e1, e2]
  by_cases hf : far val.length r = true
  · have hr0 : r ≠ 0 := by
      unfold unp at hu
      rw [hf] at hu
      simpa using hu
    have hp' : 2 ≤ r ∧ r < 16384 ∧ 32 < s ∧ val.length = 0 := by
      rcases hp with ⟨h1, _⟩ | ⟨_, h1, h2, h3, h4⟩
      · exact absurd h1 hr0
      · exact ⟨h1, h2, h3, h4⟩
    obtain rfl : val = [] := List.eq_nil_of_length_eq_zero hp'.2.2.2
    have hls : (l : Int) = s := by rw [← hl1]; unfold long; rw [if_neg hr0]
    obtain ⟨q, rfl⟩ : ∃ q : Nat, r = (q : Int) := ⟨r.toNat, by omega⟩
    rw [if_pos hf] at e3 ⊢
    rw [if_neg (by decide)]
    rw [hww, Int.toNat_natCast] at e3
    have hq : q < 256 ^ w := by
      have : 256 ^ 4 ≤ 256 ^ w := Nat.pow_le_pow_right (by decide) hw4
      omega
    obtain ⟨f1, f2, f3, f4⟩ := rd_le e3 (by omega) hw8 hq (by omega)
    rw [hw, f1, f2, hls]
    refine Prod.ext rfl ?_
    show (⟨L, _, false⟩ : Cur) = ⟨L, _, false⟩
    congr 1
    unfold room at hroom
    simp only at hroom
    rw [if_pos hg, if_pos hf, hw] at hroom
    omega
  · have hr0 : r = 0 := by
      unfold far at hf
      rw [decide_eq_true_eq] at hf
      omega
    have hs0 : s = 0 := by
      rcases hp with ⟨_, h1⟩ | ⟨h1, _⟩
      · exact h1
      · exact absurd hr0 h1
    subst hr0
    subst hs0
    have hls : l = val.length := by
      have : (l : Int) = val.length := by rw [← hl1]; unfold long; rw [if_pos rfl]
      omega
    subst hls
    rw [if_neg hf] at e3 ⊢
    rw [if_pos rfl]
    obtain ⟨f1, f2, f3, f4⟩ := rd_bytes e3 e4
    rw [f1, f2]
    refine Prod.ext rfl ?_
    show (⟨L, _, false⟩ : Cur) = ⟨L, _, false⟩
    congr 1
    unfold room at hroom
    simp only at hroom
    rw [if_pos hg, if_neg hf] at hroom
    omega
theorem rdK_ser {g : Int} (hg : gen g = true) {y : Kd} (h1 : 0 ≤ y.2) (h2 : y.2 < 16384) (h3 : y.1.length < 256) {L R : Bytes} {a : Nat} (h : L.drop a = serK g y ++ R) :
    rdK g ⟨L, a, false⟩ = (y, ⟨L, a + (serK g y).length, false⟩) := by
  obtain ⟨key, r⟩ := y
  have hroom := serK_room hg (key, r)
  obtain ⟨w, hw, hww, hw4, hw8⟩ := idw hg
  obtain ⟨q, rfl⟩ : ∃ q : Nat, r = (q : Int) := ⟨r.toNat, by simp only at h1; omega⟩
  simp only at h1 h2 h3
  unfold serK at h
  simp only [hww, Int.toNat_natCast, List.append_assoc] at h
  obtain ⟨a1, a2, a3, a4⟩ := rd_le h (by decide) (by decide) (by omega) (by omega)
  obtain ⟨e1, e2, e3, e4⟩ := rd_bytes a3 a4
  have hq : q < 256 ^ w := by
    have : 256 ^ 4 ≤ 256 ^ w := Nat.pow_le_pow_right (by decide) hw4
    omega
  obtain ⟨f1, f2, f3, f4⟩ := rd_le e3 (by omega) hw8 hq (by omega)
  unfold rdK
  have i1 : (1 : Int) = ((1 : Nat) : Int) := rfl
  rw [i1, a1, a2, e1, e2, hw, f1, f2]
  refine Prod.ext rfl ?_
  show (⟨L, _, false⟩ : Cur) = ⟨L, _, false⟩
  congr 1
  unfold kid at hroom
  simp only at hroom
  rw [if_pos hg, hw] at hroom
  omega
theorem rdLoop_ser {α : Type} {f : Cur → α × Cur} {ser : α → Bytes} : ∀ (l acc : List α) (L R : Bytes) (a : Nat), (∀ i ∈ l, ∀ (R : Bytes) (a : Nat), L.drop a = ser i ++ R → f ⟨L, a, false⟩ = (i, ⟨L, a + (ser i).length, false⟩)) → L.drop a = l.flatMap ser ++ R →
    rdLoop f l.length acc ⟨L, a, false⟩ = (acc ++ l, ⟨L, a + (l.flatMap ser).length, false⟩)
  | [], acc, L, R, a, _, _ => by simp [rdLoop]
  | i :: l, acc, L, R, a, hf, h => by
    rw [List.flatMap_cons, List.append_assoc] at h
    have h1 := hf i (by simp) _ _ h
    have h2 : L.drop (a + (ser i).length) = l.flatMap ser ++ R := by
      rw [← List.drop_drop, h]
      exact List.drop_left' rfl
    rw [List.length_cons, rdLoop, if_neg (by simp), h1, rdLoop_ser l _ L R _ (fun j hj => hf j (by simp [hj])) h2, List.flatMap_cons, List.length_append, List.append_assoc, Nat.add_assoc]
    rfl
theorem pageB_wrap {k : Nat} {x : Nd} : pageB (k : Int) x = wrapP (if x.leaf = true then 76 else 66) k (if x.leaf = true then x.its.length else x.kds.length) 0 (x.its.flatMap (serI k) ++ x.kds.flatMap (serK k)) := by
  unfold pageB rawB wrapP
  rw [Int.toNat_natCast]
  by_cases h : k = 1
  · subst h
    rfl
  · rw [if_neg h, if_neg (by omega)]
/-- What Encode makes is read as it was. -/
theorem page_back {k : Nat} {x : Nd} (h : RightN (k : Int) x) (hu : anyU x.its = false) (h1 : x.its.length ≤ 1000) (h2 : x.kds.length ≤ 1000) : DecOk (pageB k x) ∧ hdG (pageB k x) = k ∧ dcN (pageB k x) = x ∧ (pageB k x).length = 256 := by
  have hi := h.its
  have hkd := h.kds
  have hroom := h.room
  have hgen := h.1
  have hp := h.2.1
  have hcap : 0 ≤ tr (k : Int) 248 240 240 := by rcases gen_three hgen with rfl | rfl | rfl <;> decide
  have hk : kindOk ((if x.leaf = true then 76 else 66 : Nat) : Int) = true := by cases x.leaf <;> rfl
  obtain ⟨hs, hsl⟩ := wrapP_shape (k := if x.leaf = true then 76 else 66) (g := k) (n := if x.leaf = true then x.its.length else x.kds.length) (x := 0) (body := x.its.flatMap (serI k) ++ x.kds.flatMap (serK k)) hk hgen (by split <;> omega) (by decide) (Nat.pow_pos (by decide)) (by omega)
  rw [← pageB_wrap] at hs hsl
  obtain ⟨f1, f2, f3, f4, f5, f6, f7⟩ := hs.facts
  have hlf : isLf (pageB k x) = x.leaf := by
    unfold isLf
    rw [f2]
    cases x.leaf <;> rfl
  unfold PureR at hp
  have hbody : ∃ R, bodyOf (pageB k x) = (x.its.flatMap (serI k) ++ x.kds.flatMap (serK k)) ++ R := ⟨_, f7⟩
  obtain ⟨R, hR⟩ := hbody
  have hun : ∀ i ∈ x.its, unp i.2.1.length i.2.2.2 = false := fun i hi => by
    unfold anyU at hu
    rw [List.any_eq_false] at hu
    simpa using hu i hi
  have hrd : dcN (pageB k x) = x ∧ (dcC (pageB k x)).sp = false := by
    unfold dcN dcC rdN rdC
    rw [hlf, f3, f5, hR]
    obtain ⟨lf, its, kds⟩ := x
    cases lf
    · simp only [Bool.false_eq_true, if_false] at hp ⊢
      obtain ⟨rfl, _⟩ := hp
      rw [List.flatMap_nil, List.nil_append]
      have := rdLoop_ser (f := rdK k) (ser := serK k) kds [] (kds.flatMap (serK k) ++ R) R 0 (fun i hi R a hh => rdK_ser hgen (hkd i hi).1 (hkd i hi).2.1 (hkd i hi).2.2 hh) rfl
      unfold Cur.new
      rw [this]
      exact ⟨rfl, rfl⟩
    · simp only [if_true] at hp ⊢
      subst hp
      rw [List.flatMap_nil, List.append_nil]
      have := rdLoop_ser (f := rdI k) (ser := serI k) its [] (its.flatMap (serI k) ++ R) R 0 (fun i hi2 R a hh => rdI_ser (hi i hi2) (hun i hi2) hh) rfl
      unfold Cur.new
      rw [this]
      exact ⟨rfl, rfl⟩
  refine ⟨⟨?_, hrd.2, ?_, ?_⟩, f3, hrd.1, f1⟩
  · unfold nhE
    rw [if_neg (by omega), if_neg (by omega), if_neg, if_neg]
    · rw [f3]
      rintro ⟨h1, h2⟩
      rw [hsl h1] at h2
      cases h2
    · rw [f2]
      split <;> omega
  · rw [f3, hrd.1]
    exact ⟨h, hu⟩
  · rw [f3, hrd.1]
end Go.Proofs.YtbgnfocfnjlabaaDoor
