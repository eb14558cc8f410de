/-
  Many, room, Room, Fits of the document.
-/
import Derived.Test.YtoghojgajpfkkaaGreatDoorGb
import Derived.Test.YtoghojgajpfkkaaGreatDoorRefs
set_option linter.unusedVariables false
namespace Go.Proofs.YtoghojgajpfkkaaGreatDoor
open Go.RowKit

section
variable (w : World) (f : Bool) (A B : Option Addr) (n c m d : Nat) (x : Nd) (g : Int)
set_option maxHeartbeats 1600000 in
theorem DMany_c (hN : Nod w x f (.slice A n c) (.slice B m d)) : Calls Tryz.prog 103 #[.agg #[.bool f, .slice A n c, .slice B m d]] w (Told w (.int .i64 (many x : Nat))) := by
  have HO : Hid (Only (w.heap.size ≤ ·) w (w.alloc (.cells #[.bool f, .slice A n c, .slice B m d] 35))) := (Only.refl _ w).alloc (fun _ h => h) _
  have HI : Hid (Blk (w.alloc (.cells #[.bool f, .slice A n c, .slice B m d] 35)) w.heap.size 35 [.bool f, .slice A n c, .slice B m d]) := Blk.new w 35 _
  have hf := hN.1
  have HM : Hid (many x = if f = true then n else m) := Lib.hid (by unfold many; rw [hf, hN.2.1.len, hN.2.2.len])
  clear hN hf
  rw [HM.out]
  clear HM
  cases f
  · go_enter Tryz.func103, Tryz.ntmps103
    go_wp2
    go_ret
    exact ⟨rfl, HO.out⟩
  · go_enter Tryz.func103, Tryz.ntmps103
    go_wp2
    go_ret
    exact ⟨rfl, HO.out⟩

end
end Go.Proofs.YtoghojgajpfkkaaGreatDoor
