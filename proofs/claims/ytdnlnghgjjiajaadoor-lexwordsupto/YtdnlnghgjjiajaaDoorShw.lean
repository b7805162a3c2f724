/-
  A number's text, by the document.
-/
import Derived.Test.YtdnlnghgjjiajaaDoorHead
import Derived.Test.YtdnlnghgjjiajaaDoorNmp
import Derived.Lib.AppendIntMem
namespace Go.Proofs.YtdnlnghgjjiajaaDoor
open Go.RowKit
set_option linter.unusedSimpArgs false
set_option linter.unusedVariables false

set_option maxRecDepth 100000 in
theorem Right_int (n : Int) (w : World) : Calls Tryd.prog 16 #[.agg #[.int .i64 2, .bool false, .int .i64 n, .string ⟨#[]⟩, .slice none 0 0]] w fun e w' => e = .returned (.bool true) ∧ Below w.heap.size w w' := by
  go_enter Tryd.func16, Tryd.ntmps16
  go_wp2_with fail
  go_returns
  exact ⟨rfl, by go_grown⟩
theorem Format_any (n : Int) (h0 : 0 ≤ n) (h1 : n ≤ 9223372036854775807) (w : World) (hT : Tabs w) :
    Calls Tryd.prog 25 #[.int .i64 n, .int .i64 10] w fun e w' => e = .returned (.string (txt (Lib.decDigits n.toNat))) ∧ Below w.heap.size w w' := by
  refine (Tryd.strconv_FormatInt_10 n (by omega) h1 w hT.p10).mono ?_
  rintro e w' ⟨rfl, k, os, rfl⟩
  refine ⟨?_, Lib.below_grow _ w (Nat.le_refl _) k os⟩
  unfold Lib.itoa
  rw [if_neg (by omega)]
  rfl
set_option maxRecDepth 100000 in
theorem Show_int (n : Int) (h0 : 0 ≤ n) (h1 : n ≤ 9223372036854775807) (w : World) (hT : Tabs w) :
    Calls Tryd.prog 18 #[.agg #[.int .i64 2, .bool false, .int .i64 n, .string ⟨#[]⟩, .slice none 0 0]] w fun e w' => e = .returned (.string (txt (Lib.decDigits n.toNat))) ∧ Below w.heap.size w w' := by
  have hR := fun w => Right_int n w
  have hF := fun w hT => Format_any n h0 h1 w hT
  generalize txt (Lib.decDigits n.toNat) = x at hF ⊢
  have hb0 := below_new w (.cells #[.int .i64 2, .bool false, .int .i64 n, .string ⟨#[]⟩, .slice none 0 0] 42)
  have q0 : (w.alloc (.cells #[.int .i64 2, .bool false, .int .i64 n, .string ⟨#[]⟩, .slice none 0 0] 42)).cell? ⟨w.heap.size, 0, none⟩ = some (.int .i64 2) := by
    simp only [World.cell?, heap_alloc_new]; simp
  have q2 : (w.alloc (.cells #[.int .i64 2, .bool false, .int .i64 n, .string ⟨#[]⟩, .slice none 0 0] 42)).cell? ⟨w.heap.size, 2, none⟩ = some (.int .i64 n) := by
    simp only [World.cell?, heap_alloc_new]; simp
  replace hR : Hid _ := hR
  replace hF : Hid _ := hF
  replace q0 : Hid _ := q0
  replace q2 : Hid _ := q2
  replace hb0 : Hid _ := hb0
  go_enter Tryd.func18, Tryd.ntmps18
  go_wp2_with (first
    | (go_at_call 16; refine Calls.mono (hR.out _) ?_; rintro e w1 ⟨rfl, hb1⟩; have k0 := (hb1.cell (World.block_lt_of_cell? _ _ q0.out)).trans q0.out; have k2 := (hb1.cell (World.block_lt_of_cell? _ _ q2.out)).trans q2.out)
    | (go_at_call 25; refine Calls.mono (hF.out _ (hT.below (below_on hb0.out hb1))) ?_; rintro e w2 ⟨rfl, hb2⟩))
  go_returns
  exact ⟨rfl, below_on (below_on hb0.out hb1) hb2⟩
end Go.Proofs.YtdnlnghgjjiajaaDoor
