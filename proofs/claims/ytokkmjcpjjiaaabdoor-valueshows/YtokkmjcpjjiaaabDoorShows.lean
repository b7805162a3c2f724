/-
  ValueShows: its own walk.
-/
import Derived.Test.YtokkmjcpjjiaaabDoorRrt
import Derived.Test.YtokkmjcpjjiaaabDoorTru
import Derived.Test.YtokkmjcpjjiaaabDoorShw
import Derived.Test.YtokkmjcpjjiaaabDoorTbs
namespace Go.Proofs.YtokkmjcpjjiaaabDoor
open Go.RowKit
set_option linter.unusedSimpArgs false
set_option linter.unusedVariables false

set_option maxRecDepth 100000 in
set_option maxHeartbeats 4000000 in
theorem Shows_walk (k1 : Int) (b1 : Bool) (n1 : Int) (s1 : ByteArray) (p1 : Option Addr) (l1 c1 : Nat) (z1 : List Int) (w : World) (h1 : z1.length = l1) (q1 : PathAt w p1 z1) (hlc : l1 ≤ c1) (hn : -9223372036854775808 ≤ n1 ∧ n1 ≤ 9223372036854775807) (hs : s1.size ≤ maxLen) (hT0 : Tabs w) (hP0 : P10 w) (ht : w.cell? ⟨3, 0, none⟩ = some (.int .u64 1)) :
    Calls Tryd.prog 5 #[vv k1 b1 n1 s1 p1 l1 c1] w fun e w' => e = .returned (.bool true) ∧ Below w.heap.size w w' := by
  have hT : Tabs w ∧ P10 w := ⟨hT0, hP0⟩
  have hR := fun w a (b : Tabs w ∧ P10 w) => Show_any k1 b1 n1 s1 p1 l1 c1 z1 w h1 a hlc hs hn b.1 b.2
  have hRR := fun w a (b : Tabs w ∧ P10 w) => refShow_any k1 b1 n1 s1 p1 l1 c1 z1 w h1 a hlc hs hn b.1 b.2
  generalize S9.txt (shwT k1 b1 n1 s1 z1 (rgtB k1 b1 n1 s1 l1 z1 (Lib.validD s1.data.toList))) = r at hR hRR
  have hbl : ∀ {w w' : World}, (Tabs w ∧ P10 w) → Below w.heap.size w w' → (Tabs w' ∧ P10 w') := fun h b => ⟨h.1.below b, h.2.below b⟩
  unfold vv
  have hb1 := BoxAt.new w k1 b1 n1 s1 p1 l1 c1 rfl
  have g1 := q1.alloc (.cells #[.int .i64 k1, .bool b1, .int .i64 n1, .string s1, .slice p1 l1 c1] 25)
  have gT := hbl hT (below_new w (.cells #[.int .i64 k1, .bool b1, .int .i64 n1, .string s1, .slice p1 l1 c1] 25))
  replace hR : Hid _ := hR
  replace hRR : Hid _ := hRR
  go_enter Tryd.func5, Tryd.ntmps5
  go_wp2_with (go_at_call 9; refine (head_any _ (cell_keep _ ht)).mono ?_; rintro e w1 ⟨rfl, hh⟩)
  have B1 := hb1.below hh.drew
  have Q1 := g1.below hh.drew
  have TT := hbl gT hh.drew
  have h0 := below_on (below_new w _) hh.drew
  clear hh hb1 ht g1 gT hT q1 hT0 hP0
  go_region_held3 (fun w' => w'.cell? ⟨w.heap.size, 0, none⟩ = some (.int .i64 k1) ∧ w'.cell? ⟨w.heap.size, 1, none⟩ = some (.bool b1) ∧ w'.cell? ⟨w.heap.size, 2, none⟩ = some (.int .i64 n1) ∧ w'.cell? ⟨w.heap.size, 3, none⟩ = some (.string s1) ∧ w'.cell? ⟨w.heap.size, 4, none⟩ = some (.slice p1 l1 c1))
    (exact one_cells B1)
    (first
      | (go_at_call 15; refine Calls.mono (hR.out _ Q1 TT) ?_; rintro e wx ⟨rfl, hx⟩; replace B1 := B1.below hx; replace Q1 := Q1.below hx; replace TT := hbl TT hx; replace h0 := below_on h0 hx; clear hx)
      | (go_at_call 16; refine Calls.mono (hRR.out _ Q1 TT) ?_; rintro e wx ⟨rfl, hx⟩; replace B1 := B1.below hx; replace Q1 := Q1.below hx; replace TT := hbl TT hx; replace h0 := below_on h0 hx; clear hx))
  go_wp2_with fail
  go_returns
  exact ⟨by simp, h0⟩
end Go.Proofs.YtokkmjcpjjiaaabDoor
