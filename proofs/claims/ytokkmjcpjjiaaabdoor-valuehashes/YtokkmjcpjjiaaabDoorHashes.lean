/-
  ValueHashes: its own walk.
-/
import Derived.Test.YtokkmjcpjjiaaabDoorHs1
import Derived.Test.YtokkmjcpjjiaaabDoorHs2
import Derived.Test.YtokkmjcpjjiaaabDoorTru
namespace Go.Proofs.YtokkmjcpjjiaaabDoor
open Go.RowKit
set_option linter.unusedSimpArgs false
set_option linter.unusedVariables false

set_option maxRecDepth 100000 in
set_option maxHeartbeats 4000000 in
theorem Hashes_walk (a : Option Addr) (n c : Nat) (D : Nat → VV) (w : World) (hv : ValsAt w a n D) (hT : Tabs w) (hn : n * 64 ≤ 140737488351232) (ht : w.cell? ⟨3, 0, none⟩ = some (.int .u64 1)) :
    Calls Tryd.prog 7 #[.slice a n c] w fun e w' => e = .returned (.bool true) ∧ Below w.heap.size w w' := by
  have hA := fun w' (b : Below w.heap.size w w') => Hash_any a n c D w' (hv.below b) (Tabs.below hT b) hn
  have hB := fun w' (b : Below w.heap.size w w') => rHash_any a n c D w' (hv.below b) (Tabs.below hT b) hn
  generalize hall D n = h at *
  have hHd := head_any w ht
  replace hA : Hid _ := hA
  replace hB : Hid _ := hB
  replace hHd : Hid _ := hHd
  clear hv hT ht
  go_enter Tryd.func7, Tryd.ntmps7
  go_wp2_with (first
    | (go_at_call 9; refine Calls.mono hHd.out ?_; rintro e w1 ⟨rfl, g1⟩)
    | (go_at_call 18; refine Calls.mono (hA.out _ g1) ?_; rintro e w2 ⟨rfl, g2⟩; replace g2 := below_on g1 g2)
    | (go_at_call 19; refine Calls.mono (hB.out _ g2) ?_; rintro e w3 ⟨rfl, g3⟩; replace g3 := below_on g2 g3))
  go_returns
  exact ⟨by simp, g3⟩
end Go.Proofs.YtokkmjcpjjiaaabDoor
