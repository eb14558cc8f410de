/-
  The document's own division.
-/
import Derived.Test.YtdgcplmekkancaaRefb
import Derived.Deep.AppendLies
set_option linter.unusedVariables false
namespace Go.Proofs.Ytdgcplmekkancaa
open Go.RowKit

def pcells : List Value := [.int .i64 28, .int .i64 27, .int .i64 26, .int .i64 25, .int .i64 23, .int .i64 22, .int .i64 20, .int .i64 19, .int .i64 18, .int .i64 14, .int .i64 13, .int .i64 11, .int .i64 10, .int .i64 9, .int .i64 8, .int .i64 6, .int .i64 0]
theorem pcells_eq : pcells = pows.map fun p => .int .i64 (p : Nat) := rfl

structure Div (w wr : World) (g gp cap n : Nat) (L : List Bool) : Prop where
  row : wr.ownsRow w.heap.size 4 1 (.slice (some ⟨g, 0, none⟩) n cap) n (bs L)
  pow : Blk wr gp 3 pcells
  only : Only (w.heap.size ≤ ·) w wr
  ne : gp ≠ g
theorem Div.base {w wr : World} {g gp cap n : Nat} {L : List Bool} (h : Div w wr g gp cap n L) : w.heap.size ≤ g := (h.row.lt g rfl).1
theorem Div.cell {w wr : World} {g gp cap n : Nat} {L : List Bool} (h : Div w wr g gp cap n L) (hL : L.length = n) (m : Nat) (b : Bool) (hb : L[m]? = some b) : wr.cell? ⟨g, m, none⟩ = some (.bool b) := by
  have hm : m < L.length := (List.getElem?_eq_some_iff.1 hb).1
  rw [h.row.cellAt m (by omega), bs_get, hb]
  rfl
theorem Div.set {w wr : World} {g gp cap n : Nat} {L : List Bool} (h : Div w wr g gp cap n L) (m : Nat) (b : Bool) : Div w (wr.setCell ⟨g, m, none⟩ (.bool b)) g gp cap n (L.set m b) := by
  refine ⟨?_, h.pow.far (fun e => h.ne e) _, h.only.setCell h.base _, h.ne⟩
  have := (h.row.stored m (.bool b)).1
  rwa [show (bs L).set m (.bool b) = bs (L.set m b) by simp [bs]] at this

def Rested (w : World) (N : Nat) (o : List Bool) (e : Ending) (w' : World) : Prop :=
  ∃ g c, e = .returned (.slice (some ⟨g, N, none⟩) 32 c) ∧ (∀ j b, j < 32 → (divs o N)[N + j]? = some b → w'.cell? ⟨g, N + j, none⟩ = some (.bool b)) ∧ Only (w.heap.size ≤ ·) w w'

set_option maxRecDepth 100000 in
set_option maxHeartbeats 1600000 in
theorem rest_c (w : World) (B : Nat) (v : Value) (N : Nat) (o : List Bool) (hl : w.ownsRow B 4 1 v (N + 32) (bs (divs o 0))) (ho : o.length = N + 32) (hN : N ≤ 1048576) :
    Calls Try.prog 17 #[v] w (Rested w N o) := by
  obtain ⟨i0, hi0, hz0, hz1, hz2⟩ := info_parts info4
  have HI := Lib.hid (And.intro hi0 (And.intro hz0 (And.intro hz1 hz2)))
  clear hi0 hz0 hz1 hz2
  obtain ⟨gl, cl, rfl, hB, hlt⟩ := hl.form (by omega)
  have HC : Hid (∀ j u, (bs (divs o 0))[j]? = some u → ((w.alloc (.cells pcells.toArray 3)).alloc (.cells #[] 4)).cell? ((⟨gl, 0, none⟩ : Addr).add j) = some u) := by
    intro j u hu
    rw [World.cell?_alloc_lt _ _ _ (by rw [add_block']; simp; omega), World.cell?_alloc_lt _ _ _ (by rw [add_block']; exact hlt)]
    exact hl.cells (g := gl) rfl j u hu
  have HL := Lib.hid hl.1
  clear hl
  have HW : Hid (((w.alloc (.cells pcells.toArray 3)).alloc (.cells #[] 4)).ownsRow w.heap.size 4 1 (.slice (some ⟨w.heap.size + 1, 0, none⟩) 0 0) 0 []) := by
    have h := World.ownsRow_made (size := 1) (base := w.heap.size) (e := 4) (w.alloc (.cells pcells.toArray 3)) #[] 0 (by simp) (by simp [maxLen]) (by simp)
    rwa [show (w.alloc (.cells pcells.toArray 3)).heap.size = w.heap.size + 1 by simp] at h
  have HZ : Hid (w.heap.size ≤ ((w.alloc (.cells pcells.toArray 3)).alloc (.cells #[] 4)).heap.size) := by
    show _ ≤ _
    simp
    omega
  obtain ⟨n, hn⟩ : ∃ n, n = N + 32 := ⟨_, rfl⟩
  rw [← hn] at HL ho ⊢
  have hnb : n ≤ 1048608 := by omega
  have Hn := Lib.hid hn
  clear hB hn
  go_enter Try.func17, Try.ntmps17
  go_wp2_with (at_builtin; refine wpList_append_own _ rfl (.tmp 9) (.tmp 10) 34 rfl w.heap.size 4 i0 _ 1 1 Try.underlying34 HI.out.1 HI.out.2.1 HI.out.2.2.1 HI.out.2.2.2 (by rfl) (by omega) _ 0 _ rfl HW.out ⟨gl, 0, none⟩ n cl (bs (divs o 0)) rfl HL.out HC.out (bs_one _) (by simp only [maxLen]; omega) (by omega) HZ.out ?_; intro v' w1 ho' hg' _)
  have HO : Hid (Only (w.heap.size ≤ ·) w w1) := (((Only.refl _ w).alloc (fun _ h => h) _).alloc (fun _ h => h) _).grown hg' (fun _ h => h) (fun k hk => by injection hk with hk; show _ ≤ _; rw [← hk]; simp)
  have HP : Hid (Blk w1 w.heap.size 3 pcells) := by
    have h1 : Blk ((w.alloc (.cells pcells.toArray 3)).alloc (.cells #[] 4)) w.heap.size 3 pcells := (Blk.new w 3 pcells).alloc _
    refine (hg'.block w.heap.size (by simp; omega) ?_).trans h1
    intro e
    have e' : some w.heap.size = some (w.heap.size + 1) := e
    injection e' with e'
    omega
  rw [Nat.zero_add, List.nil_append] at ho'
  have Hn0 : 0 < n := by have := Hn.out; omega
  obtain ⟨g, cap, rfl, hg1, hg2⟩ := ho'.form Hn0
  have HD : Hid (Div w w1 g w.heap.size cap n (divs o 0)) := by
    refine ⟨ho', HP.out, HO.out, ?_⟩
    rintro rfl
    rcases ho'.2 with ⟨h, _⟩ | ⟨g', cap', cur, h, _, hg, _⟩
    · cases h
    · injection h with h _ _
      injection h with h
      injection h with h
      have h1 := HP.out
      unfold Blk at h1
      rw [h, hg] at h1
      injection h1 with h1
      injection h1 with _ h1
      exact absurd h1 (by decide)
  obtain ⟨gp, hgp⟩ : ∃ gp, gp = w.heap.size := ⟨_, rfl⟩
  rw [← hgp] at HD ⊢
  clear HO HP ho' hg' hg1 hg2 hgp HC HW HZ HI HL
  go_loopw [5] (fun i wr => ∃ k : Nat, k ≤ N ∧ i = .int .i64 k ∧ Div w wr g gp cap n (divs o k)) (fun i _ => N - (intOf i).toNat)
  case atStart => exact ⟨0, Nat.zero_le _, rfl, HD.out⟩
  case round =>
    clear HD
    obtain ⟨i, hi, rfl, hd⟩ := hrel
    have HD := Lib.hid hd
    clear hd
    have HLn : Hid ((divs o i).length = n) := by
      show _ = _
      have := Hn.out
      rw [divs_length _ _ (by omega), ho]
    by_cases hlt : i < N
    · have i1 : (i : Int) + 32 < (n : Int) := by have := Hn.out; omega
      have i2 : (i : Int) < (n : Int) := by omega
      obtain ⟨b, hb⟩ : ∃ b, o[i]? = some b := ⟨_, List.getElem?_eq_getElem (by have := Hn.out; omega)⟩
      have hc1 := HD.out.cell HLn.out i _ (divs_head o i b hb)
      have hf1 := HD.out.row.frozenAt i
      obtain ⟨top, htop⟩ : ∃ top, top = (b ^^ (inj M32 (o.take i)).testBit 0) := ⟨_, rfl⟩
      rw [← htop] at hc1
      have HK := Lib.hid (divs_keep o i b hb)
      have HT := Lib.hid (divs_turn o i b hb)
      rw [← htop] at HK HT
      clear htop hb b
      cases top with
      | false =>
        go_wp2
        refine ⟨⟨i + 1, by omega, by go_num, by rw [HK.out rfl]; exact HD.out⟩, ?_⟩
        simp [intOf]
        omega
      | true =>
        have HT2 := Lib.hid (HT.out rfl)
        clear HT HK
        go_wp2
        have HD2 := Lib.hid (HD.out.set i false)
        have HLn2 : Hid (((divs o i).set i false).length = n) := by show _ = _; rw [List.length_set]; exact HLn.out
        obtain ⟨L, hL⟩ : ∃ L, L = (divs o i).set i false := ⟨_, rfl⟩
        rw [← hL] at HD2 HT2 HLn2
        obtain ⟨ws, hws⟩ : ∃ ws, ws = wr.setCell ⟨g, i, none⟩ (.bool false) := ⟨_, rfl⟩
        rw [← hws] at HD2 ⊢
        clear hL hws HLn HD hc1 hf1
        go_loopw [6] (fun k wr' => ∃ t : Nat, t ≤ 17 ∧ k = .int .i64 t ∧ Div w wr' g gp cap n (flips L i (pows.take t))) (fun k _ => 17 - (intOf k).toNat)
        case atStart => exact ⟨0, by omega, rfl, HD2.out⟩
        case round =>
          clear HD2
          obtain ⟨t, ht, rfl, hd⟩ := hrel
          have HD := Lib.hid hd
          clear hd
          by_cases htl : t < 17
          · have t1 : (t : Int) < 17 := by omega
            obtain ⟨p, hp⟩ : ∃ p, pows[t]? = some p := ⟨_, List.getElem?_eq_getElem (by simpa [pows] using htl)⟩
            have hp31 := pows_le p (List.mem_of_getElem? hp)
            have hcp : wr.cell? ⟨gp, t, none⟩ = some (.int .i64 (p : Nat)) := by
              rw [HD.out.pow.cell, pcells_eq, List.getElem?_map, hp]
              rfl
            obtain ⟨m, hm⟩ : ∃ m, m = i + 32 - p := ⟨_, rfl⟩
            have HS := Lib.hid (flips_snoc L i t p hp)
            rw [← hm] at HS
            have HLf : Hid ((flips L i (pows.take t)).length = n) := by show _ = _; rw [flips_length]; exact HLn2.out
            have hmn : m < n := by have := Hn.out; omega
            have hmi : (i : Int) + 32 - (p : Int) = (m : Int) := by omega
            have m1 : (m : Int) < (n : Int) := by omega
            obtain ⟨b, hb⟩ : ∃ b, (flips L i (pows.take t))[m]? = some b := ⟨_, List.getElem?_eq_getElem (by have := HLf.out; omega)⟩
            have hcm := HD.out.cell HLf.out m b hb
            have hfm := HD.out.row.frozenAt m
            have HD3 := Lib.hid (HD.out.set m (!b))
            have HE : Hid ((flips L i (pows.take t)).set m (!b) = flips L i (pows.take (t + 1))) := by
              show _ = _
              rw [HS.out]
              unfold flip1
              rw [hb]
              rfl
            rw [HE.out] at HD3
            clear hm hp hb HS HE HLf
            go_wp2
            refine ⟨⟨t + 1, by omega, by go_num, HD3.out⟩, ?_⟩
            simp [intOf]
            omega
          · obtain rfl : t = 17 := by omega
            have e : pows.take 17 = pows := rfl
            rw [e, HT2.out] at HD
            go_wp2
            refine ⟨⟨i + 1, by omega, by go_num, HD.out⟩, ?_⟩
            simp [intOf]
            omega
    · obtain rfl : i = N := by omega
      have i1 : ¬ ((i : Int) + 32 < (n : Int)) := by have := Hn.out; omega
      have HF : Hid (∀ j b, j < 32 → (divs o i)[i + j]? = some b → wr.cell? ⟨g, i + j, none⟩ = some (.bool b)) := fun j b _ hb => HD.out.cell HLn.out _ _ hb
      by_cases h32 : i = 0
      · subst h32
        obtain rfl : n = 32 := Hn.out
        go_wp2
        go_ret
        exact ⟨g, cap, rfl, HF.out, HD.out.only⟩
      · have i2 : (32 : Int) < (n : Int) := by have := Hn.out; omega
        have hcap : ¬ (cap = n - 32) := by
          have := Hn.out
          rcases HD.out.row.2 with ⟨h, _⟩ | ⟨g', cap', cur, h, _, _, hc, _⟩
          · cases h
          · injection h with _ _ h
            omega
        go_wp2
        go_ret
        have e1 : n - 32 = i := by have := Hn.out; omega
        have e2 : n - (n - 32) = 32 := by have := Hn.out; omega
        refine ⟨g, cap - i, ?_, HF.out, HD.out.only⟩
        show Ending.returned (.slice (some ⟨g, n - 32, none⟩) (n - (n - 32)) (cap - (n - 32))) = _
        rw [e2, e1]
end Go.Proofs.Ytdgcplmekkancaa
