/-
  swap of items, and of kids; Concat of two rows: for good.
-/
import Derived.Test.YtjbbljnfgpggkaaDoorStb
set_option linter.unusedVariables false
namespace Go.Proofs.YtjbbljnfgpggkaaDoor
open Go.RowKit

/-- A row comes back, for good. -/
def OwnS {α : Type} (E : El α) (F : Nat → Prop) (w : World) (l : List α) (e : Ending) (w' : World) : Prop := ∃ A n c, e = .returned (.slice A n c) ∧ SRw E F w' (.slice A n c) l ∧ Only (w.heap.size ≤ ·) w w'
theorem SRw.rawv {α : Type} {E : El α} {F : Nat → Prop} {w : World} {A : Option Addr} {n c : Nat} {l : List α} (h : SRw E F w (.slice A n c) l) : n = l.length := h.len

set_option maxRecDepth 100000 in
set_option maxHeartbeats 6400000 in
theorem swapI_c (w : World) (F : Nat → Prop) (A B : Option Addr) (n c k q m d : Nat) (l l2 : List It) (hF : ∀ k, F k → k < w.heap.size) (h : SRw itE F w (.slice A n c) l) (h2 : SRw itE F w (.slice B m d) l2) (hk : k + q ≤ n) (hn : n ≤ 100000) (hm : m ≤ 100000) :
    Calls Tryd.prog 48 #[.slice A n c, .int .i64 k, .int .i64 q, .slice B m d] w (OwnS itE F w (l.take k ++ (l2 ++ l.drop (k + q)))) := by
  have hcap := h.rw_.now.cap
  have hcap2 := h2.rw_.now.cap
  have hnl := h.len
  have hml := h2.len
  obtain ⟨C, hC⟩ := h
  obtain ⟨D, hD⟩ := h2
  have hr : RawV 4 w (.slice A n c) n C := by have h' := hC.now.2; rw [← hnl] at h'; exact h'
  have hr2 : RawV 4 w (.slice B m d) m D := by have h' := hD.now.2; rw [← hml] at h'; exact h'
  have HC : Hid (Calls Tryd.prog 39 #[.slice (some ⟨w.heap.size, 0, none⟩) 3 3] (w.alloc (.cells #[.slice A k c, .slice B m d, .slice (if c = k + q then A else A.map (·.add ((k + q) * 4))) (n - (k + q)) (c - (k + q))] 31)).drew (OwnS itE F w (l.take k ++ (l2 ++ l.drop (k + q))))) := by
    have hW1 : Only (w.heap.size ≤ ·) w (w.alloc (.cells #[.slice A k c, .slice B m d, .slice (if c = k + q then A else A.map (·.add ((k + q) * 4))) (n - (k + q)) (c - (k + q))] 31)).drew := ((Only.refl _ w).alloc (fun _ h => h) _).drew
    refine (ConcatI_r _ w.heap.size 3 [(.slice A k c, k, C.take (k * 4)), (.slice B m d, m, D), (.slice (if c = k + q then A else A.map (·.add ((k + q) * 4))) (n - (k + q)) (c - (k + q)), n - (k + q), C.drop ((k + q) * 4))] rfl (by omega) (Blk.new w 31 _).drew ?_).mono ?_
    · intro x hx
      simp only [List.mem_cons, List.not_mem_nil, or_false] at hx
      rcases hx with rfl | rfl | rfl
      · exact ⟨(hr.take (by omega)).later hW1, by show k ≤ 100000; omega⟩
      · exact ⟨hr2.later hW1, by show m ≤ 100000; omega⟩
      · exact ⟨(hr.drop hk).later hW1, by show n - (k + q) ≤ 100000; omega⟩
    · rintro e w' ⟨v, rfl, ho, hO⟩
      obtain ⟨P, p, rfl, _⟩ := raw_of_own ho
      have hE : lens [((.slice A k c : Value), k, C.take (k * 4)), (.slice B m d, m, D), (.slice (if c = k + q then A else A.map (·.add ((k + q) * 4))) (n - (k + q)) (c - (k + q)), n - (k + q), C.drop ((k + q) * 4))] = (l.take k ++ (l2 ++ l.drop (k + q))).length := by simp [lens]; omega
      have hO2 := on_new hW1 hO
      have e : flat [((.slice A k c : Value), k, C.take (k * 4)), (.slice B m d, m, D), (.slice (if c = k + q then A else A.map (·.add ((k + q) * 4))) (n - (k + q)) (c - (k + q)), n - (k + q), C.drop ((k + q) * 4))] = C.take (k * 4) ++ (D ++ C.drop ((k + q) * 4)) := by simp [flat]
      rw [e, hE] at ho
      refine ⟨P, _, p, rfl, ⟨C.take (k * 4) ++ (D ++ C.drop ((k + q) * 4)), fun W hW => ⟨?_, ?_⟩⟩, hO2⟩
      · have hW' : Only (fun k => F k ∨ w.heap.size ≤ k) w W := (hO2.mono fun _ h => .inr h).trans (hW.mono fun k hk => hk.elim .inl fun hk => .inr (Nat.le_trans hO2.size hk))
        have m1 := (hC W hW').1
        have m2 := (hD W hW').1
        exact (m1.take (z := 4) (fun _ _ => itE.len) k).append (m2.append (m1.drop (z := 4) (fun _ _ => itE.len) (k + q)))
      · have := raw_stab (World.ownsRow.mono ho hW1.size) (fun u hu => ?_) hF W hW
        · rw [hE]; exact this
        · obtain ⟨_, _, _, _, _, _, _, _, g1⟩ := hr
          obtain ⟨_, _, _, _, _, _, _, _, g2⟩ := hr2
          rcases List.mem_append.1 hu with hu | hu
          · exact g1 u (List.mem_of_mem_take hu)
          · rcases List.mem_append.1 hu with hu | hu
            · exact g2 u hu
            · exact g1 u (List.mem_of_mem_drop hu)
  have j1 : (0 : Int) ≤ (k : Int) := by omega
  have j2 : (k : Int) ≤ (c : Int) := by omega
  have j3 : IntKind.i64.wrap ((k : Int) + (q : Int)) = (k : Int) + (q : Int) := IntWalk.i64_in _ (by omega)
  have j4 : (0 : Int) ≤ (k : Int) + (q : Int) := by omega
  have j5 : (k : Int) + (q : Int) ≤ (n : Int) := by omega
  have j6 : ((k : Int) + (q : Int)).toNat = k + q := by omega
  clear hC hD hr hr2 hnl hml hF
  go_enter Tryd.func48, Tryd.ntmps48
  go_wp2
  have hO1 : Only (w.heap.size ≤ ·) w w.drew := (Only.refl _ w).drew
  refine wp_region_held_drew (S := (fun _ => True)) (by kernel_rfl) trivial (fun hHeld => ?_)
  refine take_one (i := 0) (d := 9) (oi := ?_) (v := ?_) ?_ (by kernel_rfl) (by kernel_rfl) (by kernel_rfl) (fun _ _ _ h => h) ?_ ?_ ?_ (by assumption) ?_
  case refine_3 => (simp only [List.getElem?_toArray, List.getElem?_cons_zero]; rfl)
  case refine_4 => rfl
  case refine_5 => rfl
  case refine_6 => (intro w' hSw; (try dsimp only at hSw); go_simp; (try with_reducible rfl))
  simp only [Act.put, List.setIfInBounds_toArray, List.set_cons_zero, List.set_cons_succ]
  refine take_one (i := 1) (d := 10) (oi := ?_) (v := ?_) ?_ (by kernel_rfl) (by kernel_rfl) (by kernel_rfl) (fun _ _ _ h => h) ?_ ?_ ?_ (by assumption) ?_
  case refine_3 => (simp only [List.getElem?_toArray, List.getElem?_cons_succ, List.getElem?_cons_zero]; rfl)
  case refine_4 => rfl
  case refine_5 => rfl
  case refine_6 => (intro w' hSw; (try dsimp only at hSw); go_simp; (try with_reducible rfl))
  simp only [Act.put, List.setIfInBounds_toArray, List.set_cons_zero, List.set_cons_succ]
  refine take_one (i := 2) (d := 11) (oi := ?_) (v := ?_) ?_ (by kernel_rfl) (by kernel_rfl) (by kernel_rfl) (fun _ _ _ h => h) ?_ ?_ ?_ (by assumption) ?_
  case refine_3 => (simp only [List.getElem?_toArray, List.getElem?_cons_succ, List.getElem?_cons_zero]; rfl)
  case refine_4 => rfl
  case refine_5 => rfl
  case refine_6 => (intro w' hSw; (try dsimp only at hSw); go_simp; (try with_reducible rfl))
  simp only [Act.put, List.setIfInBounds_toArray, List.set_cons_zero, List.set_cons_succ]
  refine take_one (i := 3) (d := 12) (oi := ?_) (v := ?_) ?_ (by kernel_rfl) (by kernel_rfl) (by kernel_rfl) (fun _ _ _ h => h) ?_ ?_ ?_ (by assumption) ?_
  case refine_3 => (simp only [List.getElem?_toArray, List.getElem?_cons_succ, List.getElem?_cons_zero]; rfl)
  case refine_4 => rfl
  case refine_5 => rfl
  case refine_6 => (intro w' hSw; (try dsimp only at hSw); go_simp; (try with_reducible rfl))
  simp only [Act.put, List.setIfInBounds_toArray, List.set_cons_zero, List.set_cons_succ]
  refine take_one (i := 4) (d := 13) (oi := ?_) (v := ?_) ?_ (by kernel_rfl) (by kernel_rfl) (by kernel_rfl) (fun _ _ _ h => h) ?_ ?_ ?_ (by assumption) ?_
  case refine_3 => (simp only [List.getElem?_toArray, List.getElem?_cons_succ, List.getElem?_cons_zero]; rfl)
  case refine_4 => rfl
  case refine_5 => rfl
  case refine_6 => (intro w' hSw; (try dsimp only at hSw); go_simp; (try with_reducible rfl))
  simp only [Act.put, List.setIfInBounds_toArray, List.set_cons_zero, List.set_cons_succ]
  refine take_one (i := 5) (d := 14) (oi := ?_) (v := ?_) ?_ (by kernel_rfl) (by kernel_rfl) (by kernel_rfl) (fun _ _ _ h => h) ?_ ?_ ?_ (by assumption) ?_
  case refine_3 => (simp only [List.getElem?_toArray, List.getElem?_cons_succ, List.getElem?_cons_zero]; rfl)
  case refine_4 => rfl
  case refine_5 => rfl
  case refine_6 => (intro w' hSw; (try dsimp only at hSw); go_simp; (try with_reducible rfl))
  simp only [Act.put, List.setIfInBounds_toArray, List.set_cons_zero, List.set_cons_succ]
  refine take_one (i := 6) (d := 15) (oi := ?_) (v := ?_) ?_ (by kernel_rfl) (by kernel_rfl) (by kernel_rfl) (fun _ _ _ h => h) ?_ ?_ ?_ (by assumption) ?_
  case refine_3 => (simp only [List.getElem?_toArray, List.getElem?_cons_succ, List.getElem?_cons_zero]; rfl)
  case refine_4 => rfl
  case refine_5 => rfl
  case refine_6 => (intro w' hSw; (try dsimp only at hSw); go_simp; (try with_reducible rfl))
  simp only [Act.put, List.setIfInBounds_toArray, List.set_cons_zero, List.set_cons_succ]
  refine take_one (i := 7) (d := 16) (oi := ?_) (v := ?_) ?_ (by kernel_rfl) (by kernel_rfl) (by kernel_rfl) (fun _ _ _ h => h) ?_ ?_ ?_ (by assumption) ?_
  case refine_3 => (simp only [List.getElem?_toArray, List.getElem?_cons_succ, List.getElem?_cons_zero]; rfl)
  case refine_4 => rfl
  case refine_5 => rfl
  case refine_6 => (intro w' hSw; (try dsimp only at hSw); go_simp; (try with_reducible rfl))
  simp only [Act.put, List.setIfInBounds_toArray, List.set_cons_zero, List.set_cons_succ]
  refine take_one (i := 8) (d := 17) (oi := ?_) (v := ?_) ?_ (by kernel_rfl) (by kernel_rfl) (by kernel_rfl) (fun _ _ _ h => h) ?_ ?_ ?_ (by assumption) ?_
  case refine_3 => (simp only [List.getElem?_toArray, List.getElem?_cons_succ, List.getElem?_cons_zero]; rfl)
  case refine_4 => rfl
  case refine_5 => rfl
  case refine_6 => (intro w' hSw; (try dsimp only at hSw); go_simp; (try with_reducible rfl))
  simp only [Act.put, List.setIfInBounds_toArray, List.set_cons_zero, List.set_cons_succ]
  generalize (if c = k + q then A else A.map (·.add ((k + q) * 4))) = A3 at HC ⊢
  refine wpAnyH_ready (rs := [9]) (by kernel_rfl) (by simp) ?_
  refine AllReadyH.cons (o := ?_) ?_ (fun K hK => ?_) AllReadyH.nil
  case refine_2 => (simp only [List.getElem?_toArray, List.getElem?_cons_succ, List.getElem?_cons_zero]; rfl)
  go_simp
  refine hK.out _ _ trivial (fun hHeld => ?_)
  clear hK K
  try simp only [Act.put, List.setIfInBounds_toArray, List.set_cons_zero, List.set_cons_succ]
  refine wpAnyH_ready (rs := [10]) (by kernel_rfl) (by simp) ?_
  refine AllReadyH.cons (o := ?_) ?_ (fun K hK => ?_) AllReadyH.nil
  case refine_2 => (simp only [List.getElem?_toArray, List.getElem?_cons_succ, List.getElem?_cons_zero]; rfl)
  go_simp
  (go_at_call 39; (with_reducible refine HC.out.mono ?_); rintro e w1 ⟨A1, n1, c1, rfl, ho, hO⟩; have HW := Lib.hid ho; have HO := Lib.hid hO; clear ho hO)
  go_wp2_with (fail)
  refine hK.out _ _ trivial (fun hHeld => ?_)
  clear hK K
  try simp only [Act.put, List.setIfInBounds_toArray, List.set_cons_zero, List.set_cons_succ]
  refine take_one (i := 11) (d := 8) (oi := ?_) (v := ?_) ?_ (by kernel_rfl) (by kernel_rfl) (by kernel_rfl) (fun _ _ _ h => h) ?_ ?_ ?_ (by assumption) ?_
  case refine_3 => (simp only [List.getElem?_toArray, List.getElem?_cons_succ, List.getElem?_cons_zero]; rfl)
  case refine_4 => rfl
  case refine_5 => rfl
  case refine_6 => (intro w' hSw; (try dsimp only at hSw); go_simp; (try with_reducible rfl))
  simp only [Act.put, List.setIfInBounds_toArray, List.set_cons_zero, List.set_cons_succ]
  refine wpAnyH_done (by kernel_rfl) ?_ _
  go_wp2
  go_ret
  exact ⟨_, _, _, rfl, HW.out, HO.out⟩

set_option maxRecDepth 100000 in
set_option maxHeartbeats 6400000 in
theorem swapK_c (w : World) (F : Nat → Prop) (A B : Option Addr) (n c k q m d : Nat) (l l2 : List Kd) (hF : ∀ k, F k → k < w.heap.size) (h : SRw kdE F w (.slice A n c) l) (h2 : SRw kdE F w (.slice B m d) l2) (hk : k + q ≤ n) (hn : n ≤ 100000) (hm : m ≤ 100000) :
    Calls Tryd.prog 51 #[.slice A n c, .int .i64 k, .int .i64 q, .slice B m d] w (OwnS kdE F w (l.take k ++ (l2 ++ l.drop (k + q)))) := by
  have hcap := h.rw_.now.cap
  have hcap2 := h2.rw_.now.cap
  have hnl := h.len
  have hml := h2.len
  obtain ⟨C, hC⟩ := h
  obtain ⟨D, hD⟩ := h2
  have hr : RawV 2 w (.slice A n c) n C := by have h' := hC.now.2; rw [← hnl] at h'; exact h'
  have hr2 : RawV 2 w (.slice B m d) m D := by have h' := hD.now.2; rw [← hml] at h'; exact h'
  have HC : Hid (Calls Tryd.prog 40 #[.slice (some ⟨w.heap.size, 0, none⟩) 3 3] (w.alloc (.cells #[.slice A k c, .slice B m d, .slice (if c = k + q then A else A.map (·.add ((k + q) * 2))) (n - (k + q)) (c - (k + q))] 32)).drew (OwnS kdE F w (l.take k ++ (l2 ++ l.drop (k + q))))) := by
    have hW1 : Only (w.heap.size ≤ ·) w (w.alloc (.cells #[.slice A k c, .slice B m d, .slice (if c = k + q then A else A.map (·.add ((k + q) * 2))) (n - (k + q)) (c - (k + q))] 32)).drew := ((Only.refl _ w).alloc (fun _ h => h) _).drew
    refine (ConcatK_r _ w.heap.size 3 [(.slice A k c, k, C.take (k * 2)), (.slice B m d, m, D), (.slice (if c = k + q then A else A.map (·.add ((k + q) * 2))) (n - (k + q)) (c - (k + q)), n - (k + q), C.drop ((k + q) * 2))] rfl (by omega) (Blk.new w 32 _).drew ?_).mono ?_
    · intro x hx
      simp only [List.mem_cons, List.not_mem_nil, or_false] at hx
      rcases hx with rfl | rfl | rfl
      · exact ⟨(hr.take (by omega)).later hW1, by show k ≤ 100000; omega⟩
      · exact ⟨hr2.later hW1, by show m ≤ 100000; omega⟩
      · exact ⟨(hr.drop hk).later hW1, by show n - (k + q) ≤ 100000; omega⟩
    · rintro e w' ⟨v, rfl, ho, hO⟩
      obtain ⟨P, p, rfl, _⟩ := raw_of_own ho
      have hE : lens [((.slice A k c : Value), k, C.take (k * 2)), (.slice B m d, m, D), (.slice (if c = k + q then A else A.map (·.add ((k + q) * 2))) (n - (k + q)) (c - (k + q)), n - (k + q), C.drop ((k + q) * 2))] = (l.take k ++ (l2 ++ l.drop (k + q))).length := by simp [lens]; omega
      have hO2 := on_new hW1 hO
      have e : flat [((.slice A k c : Value), k, C.take (k * 2)), (.slice B m d, m, D), (.slice (if c = k + q then A else A.map (·.add ((k + q) * 2))) (n - (k + q)) (c - (k + q)), n - (k + q), C.drop ((k + q) * 2))] = C.take (k * 2) ++ (D ++ C.drop ((k + q) * 2)) := by simp [flat]
      rw [e, hE] at ho
      refine ⟨P, _, p, rfl, ⟨C.take (k * 2) ++ (D ++ C.drop ((k + q) * 2)), fun W hW => ⟨?_, ?_⟩⟩, hO2⟩
      · have hW' : Only (fun k => F k ∨ w.heap.size ≤ k) w W := (hO2.mono fun _ h => .inr h).trans (hW.mono fun k hk => hk.elim .inl fun hk => .inr (Nat.le_trans hO2.size hk))
        have m1 := (hC W hW').1
        have m2 := (hD W hW').1
        exact (m1.take (z := 2) (fun _ _ => kdE.len) k).append (m2.append (m1.drop (z := 2) (fun _ _ => kdE.len) (k + q)))
      · have := raw_stab (World.ownsRow.mono ho hW1.size) (fun u hu => ?_) hF W hW
        · rw [hE]; exact this
        · obtain ⟨_, _, _, _, _, _, _, _, g1⟩ := hr
          obtain ⟨_, _, _, _, _, _, _, _, g2⟩ := hr2
          rcases List.mem_append.1 hu with hu | hu
          · exact g1 u (List.mem_of_mem_take hu)
          · rcases List.mem_append.1 hu with hu | hu
            · exact g2 u hu
            · exact g1 u (List.mem_of_mem_drop hu)
  have j1 : (0 : Int) ≤ (k : Int) := by omega
  have j2 : (k : Int) ≤ (c : Int) := by omega
  have j3 : IntKind.i64.wrap ((k : Int) + (q : Int)) = (k : Int) + (q : Int) := IntWalk.i64_in _ (by omega)
  have j4 : (0 : Int) ≤ (k : Int) + (q : Int) := by omega
  have j5 : (k : Int) + (q : Int) ≤ (n : Int) := by omega
  have j6 : ((k : Int) + (q : Int)).toNat = k + q := by omega
  clear hC hD hr hr2 hnl hml hF
  go_enter Tryd.func51, Tryd.ntmps51
  go_wp2
  have hO1 : Only (w.heap.size ≤ ·) w w.drew := (Only.refl _ w).drew
  refine wp_region_held_drew (S := (fun _ => True)) (by kernel_rfl) trivial (fun hHeld => ?_)
  refine take_one (i := 0) (d := 9) (oi := ?_) (v := ?_) ?_ (by kernel_rfl) (by kernel_rfl) (by kernel_rfl) (fun _ _ _ h => h) ?_ ?_ ?_ (by assumption) ?_
  case refine_3 => (simp only [List.getElem?_toArray, List.getElem?_cons_zero]; rfl)
  case refine_4 => rfl
  case refine_5 => rfl
  case refine_6 => (intro w' hSw; (try dsimp only at hSw); go_simp; (try with_reducible rfl))
  simp only [Act.put, List.setIfInBounds_toArray, List.set_cons_zero, List.set_cons_succ]
  refine take_one (i := 1) (d := 10) (oi := ?_) (v := ?_) ?_ (by kernel_rfl) (by kernel_rfl) (by kernel_rfl) (fun _ _ _ h => h) ?_ ?_ ?_ (by assumption) ?_
  case refine_3 => (simp only [List.getElem?_toArray, List.getElem?_cons_succ, List.getElem?_cons_zero]; rfl)
  case refine_4 => rfl
  case refine_5 => rfl
  case refine_6 => (intro w' hSw; (try dsimp only at hSw); go_simp; (try with_reducible rfl))
  simp only [Act.put, List.setIfInBounds_toArray, List.set_cons_zero, List.set_cons_succ]
  refine take_one (i := 2) (d := 11) (oi := ?_) (v := ?_) ?_ (by kernel_rfl) (by kernel_rfl) (by kernel_rfl) (fun _ _ _ h => h) ?_ ?_ ?_ (by assumption) ?_
  case refine_3 => (simp only [List.getElem?_toArray, List.getElem?_cons_succ, List.getElem?_cons_zero]; rfl)
  case refine_4 => rfl
  case refine_5 => rfl
  case refine_6 => (intro w' hSw; (try dsimp only at hSw); go_simp; (try with_reducible rfl))
  simp only [Act.put, List.setIfInBounds_toArray, List.set_cons_zero, List.set_cons_succ]
  refine take_one (i := 3) (d := 12) (oi := ?_) (v := ?_) ?_ (by kernel_rfl) (by kernel_rfl) (by kernel_rfl) (fun _ _ _ h => h) ?_ ?_ ?_ (by assumption) ?_
  case refine_3 => (simp only [List.getElem?_toArray, List.getElem?_cons_succ, List.getElem?_cons_zero]; rfl)
  case refine_4 => rfl
  case refine_5 => rfl
  case refine_6 => (intro w' hSw; (try dsimp only at hSw); go_simp; (try with_reducible rfl))
  simp only [Act.put, List.setIfInBounds_toArray, List.set_cons_zero, List.set_cons_succ]
  refine take_one (i := 4) (d := 13) (oi := ?_) (v := ?_) ?_ (by kernel_rfl) (by kernel_rfl) (by kernel_rfl) (fun _ _ _ h => h) ?_ ?_ ?_ (by assumption) ?_
  case refine_3 => (simp only [List.getElem?_toArray, List.getElem?_cons_succ, List.getElem?_cons_zero]; rfl)
  case refine_4 => rfl
  case refine_5 => rfl
  case refine_6 => (intro w' hSw; (try dsimp only at hSw); go_simp; (try with_reducible rfl))
  simp only [Act.put, List.setIfInBounds_toArray, List.set_cons_zero, List.set_cons_succ]
  refine take_one (i := 5) (d := 14) (oi := ?_) (v := ?_) ?_ (by kernel_rfl) (by kernel_rfl) (by kernel_rfl) (fun _ _ _ h => h) ?_ ?_ ?_ (by assumption) ?_
  case refine_3 => (simp only [List.getElem?_toArray, List.getElem?_cons_succ, List.getElem?_cons_zero]; rfl)
  case refine_4 => rfl
  case refine_5 => rfl
  case refine_6 => (intro w' hSw; (try dsimp only at hSw); go_simp; (try with_reducible rfl))
  simp only [Act.put, List.setIfInBounds_toArray, List.set_cons_zero, List.set_cons_succ]
  refine take_one (i := 6) (d := 15) (oi := ?_) (v := ?_) ?_ (by kernel_rfl) (by kernel_rfl) (by kernel_rfl) (fun _ _ _ h => h) ?_ ?_ ?_ (by assumption) ?_
  case refine_3 => (simp only [List.getElem?_toArray, List.getElem?_cons_succ, List.getElem?_cons_zero]; rfl)
  case refine_4 => rfl
  case refine_5 => rfl
  case refine_6 => (intro w' hSw; (try dsimp only at hSw); go_simp; (try with_reducible rfl))
  simp only [Act.put, List.setIfInBounds_toArray, List.set_cons_zero, List.set_cons_succ]
  refine take_one (i := 7) (d := 16) (oi := ?_) (v := ?_) ?_ (by kernel_rfl) (by kernel_rfl) (by kernel_rfl) (fun _ _ _ h => h) ?_ ?_ ?_ (by assumption) ?_
  case refine_3 => (simp only [List.getElem?_toArray, List.getElem?_cons_succ, List.getElem?_cons_zero]; rfl)
  case refine_4 => rfl
  case refine_5 => rfl
  case refine_6 => (intro w' hSw; (try dsimp only at hSw); go_simp; (try with_reducible rfl))
  simp only [Act.put, List.setIfInBounds_toArray, List.set_cons_zero, List.set_cons_succ]
  refine take_one (i := 8) (d := 17) (oi := ?_) (v := ?_) ?_ (by kernel_rfl) (by kernel_rfl) (by kernel_rfl) (fun _ _ _ h => h) ?_ ?_ ?_ (by assumption) ?_
  case refine_3 => (simp only [List.getElem?_toArray, List.getElem?_cons_succ, List.getElem?_cons_zero]; rfl)
  case refine_4 => rfl
  case refine_5 => rfl
  case refine_6 => (intro w' hSw; (try dsimp only at hSw); go_simp; (try with_reducible rfl))
  simp only [Act.put, List.setIfInBounds_toArray, List.set_cons_zero, List.set_cons_succ]
  generalize (if c = k + q then A else A.map (·.add ((k + q) * 2))) = A3 at HC ⊢
  refine wpAnyH_ready (rs := [9]) (by kernel_rfl) (by simp) ?_
  refine AllReadyH.cons (o := ?_) ?_ (fun K hK => ?_) AllReadyH.nil
  case refine_2 => (simp only [List.getElem?_toArray, List.getElem?_cons_succ, List.getElem?_cons_zero]; rfl)
  go_simp
  refine hK.out _ _ trivial (fun hHeld => ?_)
  clear hK K
  try simp only [Act.put, List.setIfInBounds_toArray, List.set_cons_zero, List.set_cons_succ]
  refine wpAnyH_ready (rs := [10]) (by kernel_rfl) (by simp) ?_
  refine AllReadyH.cons (o := ?_) ?_ (fun K hK => ?_) AllReadyH.nil
  case refine_2 => (simp only [List.getElem?_toArray, List.getElem?_cons_succ, List.getElem?_cons_zero]; rfl)
  go_simp
  (go_at_call 40; (with_reducible refine HC.out.mono ?_); rintro e w1 ⟨A1, n1, c1, rfl, ho, hO⟩; have HW := Lib.hid ho; have HO := Lib.hid hO; clear ho hO)
  go_wp2_with (fail)
  refine hK.out _ _ trivial (fun hHeld => ?_)
  clear hK K
  try simp only [Act.put, List.setIfInBounds_toArray, List.set_cons_zero, List.set_cons_succ]
  refine take_one (i := 11) (d := 8) (oi := ?_) (v := ?_) ?_ (by kernel_rfl) (by kernel_rfl) (by kernel_rfl) (fun _ _ _ h => h) ?_ ?_ ?_ (by assumption) ?_
  case refine_3 => (simp only [List.getElem?_toArray, List.getElem?_cons_succ, List.getElem?_cons_zero]; rfl)
  case refine_4 => rfl
  case refine_5 => rfl
  case refine_6 => (intro w' hSw; (try dsimp only at hSw); go_simp; (try with_reducible rfl))
  simp only [Act.put, List.setIfInBounds_toArray, List.set_cons_zero, List.set_cons_succ]
  refine wpAnyH_done (by kernel_rfl) ?_ _
  go_wp2
  go_ret
  exact ⟨_, _, _, rfl, HW.out, HO.out⟩

theorem ConcatI_2 (w : World) (F : Nat → Prop) (A B : Option Addr) (n c m d : Nat) (l l2 : List It) (hF : ∀ k, F k → k < w.heap.size) (h : SRw itE F w (.slice A n c) l) (h2 : SRw itE F w (.slice B m d) l2) (hn : n ≤ 100000) (hm : m ≤ 100000) :
    Calls Tryd.prog 39 #[.slice (some ⟨w.heap.size, 0, none⟩) 2 2] (w.alloc (.cells #[.slice A n c, .slice B m d] 31)) (OwnS itE F w (l ++ l2)) := by
  have hnl := h.len
  have hml := h2.len
  obtain ⟨C, hC⟩ := h
  obtain ⟨D, hD⟩ := h2
  have hr : RawV 4 w (.slice A n c) n C := by have h' := hC.now.2; rw [← hnl] at h'; exact h'
  have hr2 : RawV 4 w (.slice B m d) m D := by have h' := hD.now.2; rw [← hml] at h'; exact h'
  have hW1 : Only (w.heap.size ≤ ·) w (w.alloc (.cells #[.slice A n c, .slice B m d] 31)) := (Only.refl _ w).alloc (fun _ h => h) _
  refine (ConcatI_r _ w.heap.size 2 [(.slice A n c, n, C), (.slice B m d, m, D)] rfl (by omega) (Blk.new w 31 _) ?_).mono ?_
  · intro x hx
    simp only [List.mem_cons, List.not_mem_nil, or_false] at hx
    rcases hx with rfl | rfl
    · exact ⟨hr.later hW1, hn⟩
    · exact ⟨hr2.later hW1, hm⟩
  · rintro e w' ⟨v, rfl, ho, hO⟩
    obtain ⟨P, p, rfl, _⟩ := raw_of_own ho
    have hE : lens [((.slice A n c : Value), n, C), (.slice B m d, m, D)] = (l ++ l2).length := by simp [lens]; omega
    have e : flat [((.slice A n c : Value), n, C), (.slice B m d, m, D)] = C ++ D := by simp [flat]
    have hO2 := on_new hW1 hO
    rw [e, hE] at ho
    refine ⟨P, _, p, rfl, ⟨C ++ D, fun W hW => ⟨?_, ?_⟩⟩, hO2⟩
    · have hW' : Only (fun k => F k ∨ w.heap.size ≤ k) w W := (hO2.mono fun _ h => .inr h).trans (hW.mono fun k hk => hk.elim .inl fun hk => .inr (Nat.le_trans hO2.size hk))
      exact (hC W hW').1.append (hD W hW').1
    · have := raw_stab (World.ownsRow.mono ho hW1.size) (fun u hu => ?_) hF W hW
      · rw [hE]; exact this
      · obtain ⟨_, _, _, _, _, _, _, _, g1⟩ := hr
        obtain ⟨_, _, _, _, _, _, _, _, g2⟩ := hr2
        rcases List.mem_append.1 hu with hu | hu
        · exact g1 u hu
        · exact g2 u hu

theorem ConcatK_2 (w : World) (F : Nat → Prop) (A B : Option Addr) (n c m d : Nat) (l l2 : List Kd) (hF : ∀ k, F k → k < w.heap.size) (h : SRw kdE F w (.slice A n c) l) (h2 : SRw kdE F w (.slice B m d) l2) (hn : n ≤ 100000) (hm : m ≤ 100000) :
    Calls Tryd.prog 40 #[.slice (some ⟨w.heap.size, 0, none⟩) 2 2] (w.alloc (.cells #[.slice A n c, .slice B m d] 32)) (OwnS kdE F w (l ++ l2)) := by
  have hnl := h.len
  have hml := h2.len
  obtain ⟨C, hC⟩ := h
  obtain ⟨D, hD⟩ := h2
  have hr : RawV 2 w (.slice A n c) n C := by have h' := hC.now.2; rw [← hnl] at h'; exact h'
  have hr2 : RawV 2 w (.slice B m d) m D := by have h' := hD.now.2; rw [← hml] at h'; exact h'
  have hW1 : Only (w.heap.size ≤ ·) w (w.alloc (.cells #[.slice A n c, .slice B m d] 32)) := (Only.refl _ w).alloc (fun _ h => h) _
  refine (ConcatK_r _ w.heap.size 2 [(.slice A n c, n, C), (.slice B m d, m, D)] rfl (by omega) (Blk.new w 32 _) ?_).mono ?_
  · intro x hx
    simp only [List.mem_cons, List.not_mem_nil, or_false] at hx
    rcases hx with rfl | rfl
    · exact ⟨hr.later hW1, hn⟩
    · exact ⟨hr2.later hW1, hm⟩
  · rintro e w' ⟨v, rfl, ho, hO⟩
    obtain ⟨P, p, rfl, _⟩ := raw_of_own ho
    have hE : lens [((.slice A n c : Value), n, C), (.slice B m d, m, D)] = (l ++ l2).length := by simp [lens]; omega
    have e : flat [((.slice A n c : Value), n, C), (.slice B m d, m, D)] = C ++ D := by simp [flat]
    have hO2 := on_new hW1 hO
    rw [e, hE] at ho
    refine ⟨P, _, p, rfl, ⟨C ++ D, fun W hW => ⟨?_, ?_⟩⟩, hO2⟩
    · have hW' : Only (fun k => F k ∨ w.heap.size ≤ k) w W := (hO2.mono fun _ h => .inr h).trans (hW.mono fun k hk => hk.elim .inl fun hk => .inr (Nat.le_trans hO2.size hk))
      exact (hC W hW').1.append (hD W hW').1
    · have := raw_stab (World.ownsRow.mono ho hW1.size) (fun u hu => ?_) hF W hW
      · rw [hE]; exact this
      · obtain ⟨_, _, _, _, _, _, _, _, g1⟩ := hr
        obtain ⟨_, _, _, _, _, _, _, _, g2⟩ := hr2
        rcases List.mem_append.1 hu with hu | hu
        · exact g1 u hu
        · exact g2 u hu

end Go.Proofs.YtjbbljnfgpggkaaDoor
