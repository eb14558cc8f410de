/-
  Rows of writes that stay: of one write; of two rows as one.
-/
import Derived.Test.YtbpldkhgiddmlaaGreatDoorPgx
import Derived.Test.YtbpldkhgiddmlaaGreatDoorPcn
set_option linter.unusedVariables false
namespace Go.Proofs.YtbpldkhgiddmlaaGreatDoor
open Go.RowKit Go.Proofs

theorem blk_stab {D : Nat → Prop} {w : World} {g : Nat} {t : TypeId} {cs : List Value} (h : Blk w g t cs) (hg : ¬ D g) : Stab D w (fun W => Blk W g t cs) := fun W hW => h.only hW (fun hk => hk.elim hg fun hk => by have := h.lt; omega)
/-- One write in a block of its own. -/
theorem srw_one {D : Nat → Prop} {w : World} {g : Nat} {s : Int} {A : Option Addr} {c : Nat} {xs : Bytes} (h : Blk w g 71 [.int .i64 s, .slice A xs.length c]) (hg : ¬ D g) (hx : Stab D w (fun W => Src W (.slice A xs.length c) xs)) : SRw wrE D w (.slice (some ⟨g, 0, none⟩) 1 1) [(s, xs)] := by
  refine ⟨[.int .i64 s, .slice A xs.length c], fun W hW => ⟨⟨_, [], by simp, ⟨A, c, rfl, hx W hW⟩, rfl⟩, some ⟨g, 0, none⟩, 1, rfl, by simp; rfl, fun _ => ?_, (fun e => by cases e), Nat.le_refl _, by decide, ?_⟩⟩
  · have hb := blk_stab h hg W hW
    exact ⟨g, 0, rfl, hb.lt, fun j u hu => by rw [Nat.zero_add, hb.cell]; exact hu⟩
  · intro u hu
    simp at hu
    rcases hu with rfl | rfl <;> rfl
set_option maxRecDepth 100000 in
set_option maxHeartbeats 1600000 in
/-- Two rows as one. -/
theorem concat_two (w : World) (D : Nat → Prop) (hD : ∀ k, D k → k < w.heap.size) (r : Nat) (A B : Option Addr) (n m c e : Nat) (l1 l2 : List Wt) (hb : Blk w r 47 [.slice A n c, .slice B m e]) (h1 : SRw wrE D w (.slice A n c) l1) (h2 : SRw wrE D w (.slice B m e) l2) (hn : n ≤ 10000) (hm : m ≤ 10000) :
    Calls Tryz.prog 44 #[.slice (some ⟨r, 0, none⟩) 2 2] w fun e w' => ∃ V vc, e = .returned (.slice V (n + m) vc) ∧ SRw wrE D w' (.slice V (n + m) vc) (l1 ++ l2) ∧ Only (w.heap.size ≤ ·) w w' := by
  obtain rfl := h1.len
  obtain rfl := h2.len
  obtain ⟨C1, s1⟩ := h1
  obtain ⟨C2, s2⟩ := h2
  have n1 := s1.now
  have n2 := s2.now
  refine (PConcat_r w r 2 [(.slice A l1.length c, l1.length, C1), (.slice B l2.length e, l2.length, C2)] rfl (by omega) hb ?_).mono ?_
  · intro x hx
    simp at hx
    rcases hx with rfl | rfl
    · exact ⟨n1.2, by show l1.length ≤ 100000; omega⟩
    · exact ⟨n2.2, by show l2.length ≤ 100000; omega⟩
  · rintro e w' ⟨v, rfl, hown, ho⟩
    have hlen : lens [(.slice A l1.length c, l1.length, C1), (.slice B l2.length e, l2.length, C2)] = l1.length + l2.length := by simp [lens]
    have hflat : flat [(.slice A l1.length c, l1.length, C1), (.slice B l2.length e, l2.length, C2)] = C1 ++ C2 := by simp [flat]
    rw [hlen, hflat] at hown
    obtain ⟨V, vc, rfl, _⟩ := raw_of_own hown
    have hone : ∀ u ∈ C1 ++ C2, u.oneCell' = true := fun u hu => by
      obtain ⟨_, _, _, _, _, _, _, _, q1⟩ := n1.2
      obtain ⟨_, _, _, _, _, _, _, _, q2⟩ := n2.2
      exact (List.mem_append.1 hu).elim (q1 u) (q2 u)
    have hraw := raw_stab hown hone hD
    refine ⟨V, vc, rfl, ⟨C1 ++ C2, fun W hW => ⟨?_, by rw [List.length_append]; exact hraw W hW⟩⟩, ho⟩
    have hW2 : Only (fun k => D k ∨ w.heap.size ≤ k) w W := (ho.mono fun _ hk => .inr hk).trans (hW.mono fun k hk => hk.elim .inl fun hk => .inr (Nat.le_trans ho.size hk))
    exact Den.append (s1 W hW2).1 (s2 W hW2).1
/-- write, of two rounds. -/
theorem commit_write (w : World) (q p : Nat) (d : Dk.Dsk) (D : Nat → Prop) (h : PAt w q p d D) (pages : Int) (hp : 0 ≤ pages ∧ pages ≤ 1000000000) (r : Nat) (hr : ¬ D r) (A B : Option Addr) (n m c e : Nat) (l1 l2 : List Wt) (hb : Blk w r 47 [.slice A n c, .slice B m e])
    (h1 : SRw wrE D w (.slice A n c) l1) (h2 : SRw wrE D w (.slice B m e) l2) (k1 : ∀ y ∈ l1, OkW y) (k2 : ∀ y ∈ l2, OkW y) (hroom : Roomy d (costs [l1, l2])) :
    Calls Tryz.prog 43 #[.pointer (some ⟨q, 0, none⟩), .int .i64 pages, .slice (some ⟨r, 0, none⟩) 2 2] w fun e w' => e = .returned (.int .i64 (wrP d pages [l1, l2]).2) ∧ PGave w w' q p (wrP d pages [l1, l2]).1 D := by
  refine Pgwrite_c w q p d D h pages r 2 [(.slice A n c, l1), (.slice B m e, l2)] hp rfl ((blk_stab hb hr).imp fun W hW k x hx => ?_) ?_ ?_ hroom (by omega)
  · match k, hx with
    | 0, hx => cases hx; exact hW.cell 0
    | 1, hx => cases hx; exact hW.cell 1
    | k + 2, hx => simp at hx
  · intro x hx
    simp at hx
    rcases hx with rfl | rfl
    · have := h1.rw_.now.cap
      exact ⟨A, n, c, rfl, this.1, this.2.1, h1⟩
    · have := h2.rw_.now.cap
      exact ⟨B, m, e, rfl, this.1, this.2.1, h2⟩
  · intro x hx
    simp at hx
    rcases hx with rfl | rfl
    · exact k1
    · exact k2
/-- Two writes in a block of their own. -/
theorem srw_two {D : Nat → Prop} {w : World} {g : Nat} {s t : Int} {A B : Option Addr} {c e : Nat} {xs ys : Bytes} (h : Blk w g 71 [.int .i64 s, .slice A xs.length c, .int .i64 t, .slice B ys.length e]) (hg : ¬ D g) (hx : Stab D w (fun W => Src W (.slice A xs.length c) xs)) (hy : Stab D w (fun W => Src W (.slice B ys.length e) ys)) : SRw wrE D w (.slice (some ⟨g, 0, none⟩) 2 2) [(s, xs), (t, ys)] := by
  refine ⟨[.int .i64 s, .slice A xs.length c, .int .i64 t, .slice B ys.length e], fun W hW => ⟨⟨[.int .i64 s, .slice A xs.length c], [.int .i64 t, .slice B ys.length e], rfl, ⟨A, c, rfl, hx W hW⟩, ⟨[.int .i64 t, .slice B ys.length e], [], by simp, ⟨B, e, rfl, hy W hW⟩, rfl⟩⟩, some ⟨g, 0, none⟩, 2, rfl, by simp; rfl, fun _ => ?_, (fun e => by cases e), Nat.le_refl _, by decide, ?_⟩⟩
  · have hb := blk_stab h hg W hW
    exact ⟨g, 0, rfl, hb.lt, fun j u hu => by rw [Nat.zero_add, hb.cell]; exact hu⟩
  · intro u hu
    simp at hu
    rcases hu with rfl | rfl | rfl | rfl <;> rfl
/-- write, of one round. -/
theorem format_write (w : World) (q p : Nat) (d : Dk.Dsk) (D : Nat → Prop) (h : PAt w q p d D) (pages : Int) (hp : 0 ≤ pages ∧ pages ≤ 1000000000) (r : Nat) (hr : ¬ D r) (A : Option Addr) (n c : Nat) (l1 : List Wt) (hb : Blk w r 47 [.slice A n c])
    (h1 : SRw wrE D w (.slice A n c) l1) (k1 : ∀ y ∈ l1, OkW y) (hroom : Roomy d (costs [l1])) :
    Calls Tryz.prog 43 #[.pointer (some ⟨q, 0, none⟩), .int .i64 pages, .slice (some ⟨r, 0, none⟩) 1 1] w fun e w' => e = .returned (.int .i64 (wrP d pages [l1]).2) ∧ PGave w w' q p (wrP d pages [l1]).1 D := by
  refine Pgwrite_c w q p d D h pages r 1 [(.slice A n c, l1)] hp rfl ((blk_stab hb hr).imp fun W hW k x hx => ?_) ?_ ?_ hroom (by omega)
  · match k, hx with
    | 0, hx => cases hx; exact hW.cell 0
    | k + 1, hx => simp at hx
  · intro x hx
    simp at hx
    subst hx
    have := h1.rw_.now.cap
    exact ⟨A, n, c, rfl, this.1, this.2.1, h1⟩
  · intro x hx
    simp at hx
    subst hx
    exact k1
end Go.Proofs.YtbpldkhgiddmlaaGreatDoor
