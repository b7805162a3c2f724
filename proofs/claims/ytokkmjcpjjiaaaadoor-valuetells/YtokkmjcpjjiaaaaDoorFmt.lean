/-
  The text of -7.
-/
import Derived.Test.YtokkmjcpjjiaaaaDoorDec
import Derived.KernelRfl
import Derived.Laws.BytesArg
namespace Go.Proofs.YtokkmjcpjjiaaaaDoor
open Go.RowKit
set_option linter.unusedSimpArgs false
set_option linter.unusedVariables false

set_option maxRecDepth 100000 in
theorem len7 (w : World) : Calls Tryd.prog 89 #[.int .u64 7] w fun e w' => e = .returned (.int .i64 3) ∧ w' = w := by
  go_enter Tryd.func89, Tryd.ntmps89
  go_wp2
  go_returns
  exact ⟨by kernel_rfl, rfl⟩
theorem log3 (w : World) : Calls Tryd.prog 88 #[.int .i64 3] w fun e w' => e = .returned (.int .i64 0) ∧ w' = w := by
  go_enter Tryd.func88, Tryd.ntmps88
  go_wp2
  go_returns
  exact ⟨rfl, rfl⟩
theorem bool2t (w : World) : Calls Tryd.prog 90 #[.bool true] w fun e w' => e = .returned (.int .i64 1) ∧ w' = w := by
  go_enter Tryd.func90, Tryd.ntmps90
  go_wp2
  go_returns
  exact ⟨rfl, rfl⟩
set_option maxRecDepth 100000 in
theorem digits7 (w : World) (h : w.cell? ⟨3, 0, none⟩ = some (.int .u64 1)) : Calls Tryd.prog 81 #[.int .u64 7] w fun e w' => e = .returned (.int .i64 1) ∧ w' = w := by
  go_enter Tryd.func81, Tryd.ntmps81
  go_wp2_with (first | (go_at_call 89; refine (len7 _).mono ?_; rintro e w1 ⟨rfl, rfl⟩) | (go_at_call 88; refine (log3 _).mono ?_; rintro e w1 ⟨rfl, rfl⟩) | (go_at_call 90; refine (bool2t _).mono ?_; rintro e w1 ⟨rfl, rfl⟩))
  go_returns
  exact ⟨rfl, rfl⟩
set_option maxRecDepth 100000 in
theorem base7 (w : World) (b : Nat) (h : w.cell? ⟨b, 1, none⟩ = some (.int .u8 0)) (hf : w.frozen? ⟨b, 1, none⟩ = false) : Calls Tryd.prog 82 #[.slice (some ⟨b, 1, none⟩) 1 23, .int .u64 7] w fun e w' => e = .returned (.tuple #[]) ∧ w' = w.setCell ⟨b, 1, none⟩ (.int .u8 55) := by
  go_enter Tryd.func82, Tryd.ntmps82
  go_wp2
  go_rounds 1
  go_returns
  exact ⟨rfl, rfl⟩

theorem text7 (w : World) : (convert 28 9 (.slice (some ⟨w.heap.size, 0, none⟩) 2 24)).run Tryd.prog (w.alloc (.cells #[.int .u8 45, .int .u8 55, .int .u8 0, .int .u8 0, .int .u8 0, .int .u8 0, .int .u8 0, .int .u8 0, .int .u8 0, .int .u8 0, .int .u8 0, .int .u8 0, .int .u8 0, .int .u8 0, .int .u8 0, .int .u8 0, .int .u8 0, .int .u8 0, .int .u8 0, .int .u8 0, .int .u8 0, .int .u8 0, .int .u8 0, .int .u8 0] 91)) = .ok (.string ⟨#[45, 55]⟩) (w.alloc (.cells #[.int .u8 45, .int .u8 55, .int .u8 0, .int .u8 0, .int .u8 0, .int .u8 0, .int .u8 0, .int .u8 0, .int .u8 0, .int .u8 0, .int .u8 0, .int .u8 0, .int .u8 0, .int .u8 0, .int .u8 0, .int .u8 0, .int .u8 0, .int .u8 0, .int .u8 0, .int .u8 0, .int .u8 0, .int .u8 0, .int .u8 0, .int .u8 0] 91)) := by
  have := run_convert_bytes_arg (P := Tryd.prog) (w.alloc (.cells #[.int .u8 45, .int .u8 55, .int .u8 0, .int .u8 0, .int .u8 0, .int .u8 0, .int .u8 0, .int .u8 0, .int .u8 0, .int .u8 0, .int .u8 0, .int .u8 0, .int .u8 0, .int .u8 0, .int .u8 0, .int .u8 0, .int .u8 0, .int .u8 0, .int .u8 0, .int .u8 0, .int .u8 0, .int .u8 0, .int .u8 0, .int .u8 0] 91)) 28 5 Tryd.underlying28 Tryd.underlying5 w.heap.size 0 2 24 [45, 55] rfl (fun i hi => by
    have hn := heap_alloc_new w (.cells #[.int .u8 45, .int .u8 55, .int .u8 0, .int .u8 0, .int .u8 0, .int .u8 0, .int .u8 0, .int .u8 0, .int .u8 0, .int .u8 0, .int .u8 0, .int .u8 0, .int .u8 0, .int .u8 0, .int .u8 0, .int .u8 0, .int .u8 0, .int .u8 0, .int .u8 0, .int .u8 0, .int .u8 0, .int .u8 0, .int .u8 0, .int .u8 0] 91)
    simp only [World.cell?, hn]
    match i, hi with
    | 0, _ => rfl
    | 1, _ => rfl) 9 Tryd.underlying9
  exact this

set_option maxRecDepth 100000 in
theorem intText7 (w : World) (h : w.cell? ⟨3, 0, none⟩ = some (.int .u64 1)) : Calls Tryd.prog 65 #[.int .i64 (-7), .int .i64 10] w fun e w' => e = .returned (.string ⟨#[45, 55]⟩) ∧ Below w.heap.size w w' := by
  have hcv := text7 w
  go_enter Tryd.func65, Tryd.ntmps65
  go_wp2_with (first | (go_at_call 81; (refine (digits7 _ (cell_keep _ h)).mono ?_; rintro e w1 ⟨rfl, rfl⟩)) | (go_at_call 82; (refine (base7 _ w.heap.size ?_ ?_).mono ?_; (focus simp); (focus simp); rintro e w1 ⟨rfl, rfl⟩)))
  go_returns
  exact ⟨rfl, by go_grown⟩

theorem formatInt7 (w : World) (h : w.cell? ⟨3, 0, none⟩ = some (.int .u64 1)) : Calls Tryd.prog 43 #[.int .i64 (-7), .int .i64 10] w fun e w' => e = .returned (.string ⟨#[45, 55]⟩) ∧ Below w.heap.size w w' := by
  go_enter Tryd.func43, Tryd.ntmps43
  go_wp2_with (go_at_call 65; refine (intText7 _ h).mono ?_; rintro e w1 ⟨rfl, hb⟩)
  go_returns
  exact ⟨rfl, hb⟩
end Go.Proofs.YtokkmjcpjjiaaaaDoor
