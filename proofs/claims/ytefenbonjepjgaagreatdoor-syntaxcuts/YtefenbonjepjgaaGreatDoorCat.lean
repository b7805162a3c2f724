/-
  What is deferred where a text is read: the refusal is caught.
-/
import Derived.Test.YtefenbonjepjgaaGreatDoorRdp
namespace Go.Proofs.YtefenbonjepjgaaGreatDoor
open Go.ChangeShapes Go.WideShapes Go.ChangeAt Go.RowKit
set_option linter.unusedSimpArgs false
set_option linter.unusedVariables false

theorem post_letter {P : Program} {c : Code} {R : Exit → Act → World → Prop} {t : Array Value} {w : World}
    (h : ∀ (T : Array Value) (Q : Exit → Act → World → Prop), T = t → (∀ e a' w', R e a' w' → Q e a' w') → c.wp P Q { tmps := T, defers := [] } w) : c.wp P R { tmps := t, defers := [] } w := h t _ rfl fun _ _ _ x => x
theorem ta_yes (a y : Int) (w : World) : (Instr.typeAssert (.iface 91 (.agg #[.int .i64 a, .int .i64 y])) 20 91 true).run Tryz.prog w = .ok (.tuple #[.agg #[.int .i64 a, .int .i64 y], .bool true]) w := by kernel_rfl
theorem ta_no (w : World) : (Instr.typeAssert .nilIface 20 91 true).run Tryz.prog w = .ok (.tuple #[.agg #[.int .i64 0, .int .i64 0], .bool false]) w := by kernel_rfl

set_option maxRecDepth 100000 in
set_option maxHeartbeats 300000 in
theorem catch51 (ba be : Nat) (a y x z : Int) (older : List PanicEntry) (w : World) (hne : ba ≠ be) (h1 : w.cell? ⟨ba, 0, none⟩ = some (.int .i64 x)) (h2 : w.cell? ⟨be, 0, none⟩ = some (.int .i64 z)) (f1 : w.frozen? ⟨ba, 0, none⟩ = false) (f2 : w.frozen? ⟨be, 0, none⟩ = false) :
    CallsD Tryz.prog 51 #[.pointer (some ⟨ba, 0, none⟩), .pointer (some ⟨be, 0, none⟩)] (.panicking ({ v := .iface 91 (.agg #[.int .i64 a, .int .i64 y]), recovered := false } :: older)) w fun e u' w' =>
      e = .returned (.tuple #[]) ∧ u' = .panicking ({ v := .iface 91 (.agg #[.int .i64 a, .int .i64 y]), recovered := true } :: older) ∧ Only (fun k => k = ba ∨ k = be) w w' ∧ w'.cell? ⟨ba, 0, none⟩ = some (.int .i64 a) ∧ w'.cell? ⟨be, 0, none⟩ = some (.int .i64 y) := by
  refine callsD_of_wpS Tryz.func51 rfl fun c₀ cs hu => ?_
  have hta := ta_yes a y
  apply wpS_seq
  apply wpS_region
  simp [wpOpsS, go_sem, recoverD, hu, Tryz.ntmps51, Exit.thenS, hta]
  refine wpS_of_wp ?_
  refine post_letter ?_
  intro T Q hT hQ
  have hT' : T = #[.pointer (some ⟨ba, 0, none⟩), .pointer (some ⟨be, 0, none⟩), .pointer (some ⟨w.heap.size, 0, none⟩), .bool true, .tuple #[.agg #[.int .i64 a, .int .i64 y], .bool true], .iface 91 (.agg #[.int .i64 a, .int .i64 y]), .tuple #[.agg #[.int .i64 a, .int .i64 y], .bool true], .agg #[.int .i64 a, .int .i64 y], .bool true, undef, undef, undef, undef, undef] := hT.trans (by kernel_rfl)
  clear hT
  subst hT'
  replace hQ : Hid _ := hQ
  have hla : ba < w.heap.size := World.block_lt_of_cell? w _ h1
  have hle : be < w.heap.size := World.block_lt_of_cell? w _ h2
  have g1 := cell_keep (.cells #[.int .i64 a, .int .i64 y] 91) h1
  have g2 := cell_keep (.cells #[.int .i64 a, .int .i64 y] 91) h2
  replace hu : Hid _ := hu
  go_wp2_with fail
  go_region
  refine hQ.out _ _ _ ⟨rfl, _, rfl, .tuple #[], by kernel_rfl, rfl, rfl, ?_, ?_, ?_⟩
  · have o1 : Only (fun k => k = ba ∨ k = be) w (w.setCell ⟨ba, 0, none⟩ (.int .i64 a)) := ⟨rfl, rfl, rfl, by simp [World.setCell], fun k hk hn => Below.heap_setCell _ _ _ _ (fun e => hn (Or.inl e))⟩
    have o2 : Only (fun k => k = ba ∨ k = be) (w.setCell ⟨ba, 0, none⟩ (.int .i64 a)) ((w.setCell ⟨ba, 0, none⟩ (.int .i64 a)).setCell ⟨be, 0, none⟩ (.int .i64 y)) := ⟨rfl, rfl, rfl, by simp [World.setCell], fun k hk hn => Below.heap_setCell _ _ _ _ (fun e => hn (Or.inr e))⟩
    have o3 := only_new (o1.trans o2) (.cells #[.int .i64 a, .int .i64 y] 91)
    exact o3.trans (Below.only _ (by go_grown))
  · simp [go_sem]
    exact cell_keep _ (by simp [go_sem, h1, h2, hne, Ne.symm hne])
  · simp [go_sem]
    exact cell_keep _ (by simp [go_sem, h1, h2, hne, Ne.symm hne])

set_option maxRecDepth 100000 in
set_option maxHeartbeats 300000 in
theorem idle51 (ba be : Nat) (w : World) :
    CallsD Tryz.prog 51 #[.pointer (some ⟨ba, 0, none⟩), .pointer (some ⟨be, 0, none⟩)] .returning w fun e u' w' => e = .returned (.tuple #[]) ∧ u' = .returning ∧ Below w.heap.size w w' := by
  refine callsD_of_wpS Tryz.func51 rfl fun c₀ cs hu => ?_
  have hta := ta_no
  apply wpS_seq
  apply wpS_region
  simp [wpOpsS, go_sem, recoverD, hu, Tryz.ntmps51, Exit.thenS, hta]
  refine wpS_of_wp ?_
  refine post_letter ?_
  intro T Q hT hQ
  have hT' : T = #[.pointer (some ⟨ba, 0, none⟩), .pointer (some ⟨be, 0, none⟩), .pointer (some ⟨w.heap.size, 0, none⟩), .bool false, .tuple #[.agg #[.int .i64 0, .int .i64 0], .bool false], .nilIface, .tuple #[.agg #[.int .i64 0, .int .i64 0], .bool false], .agg #[.int .i64 0, .int .i64 0], .bool false, undef, undef, undef, undef, undef] := hT.trans (by kernel_rfl)
  clear hT
  subst hT'
  replace hQ : Hid _ := hQ
  replace hu : Hid _ := hu
  go_wp2_with fail
  refine hQ.out _ _ _ ⟨rfl, .returning, (by have h := hu.out; cases c₀; cases h; rfl), .tuple #[], by kernel_rfl, rfl, rfl, ?_⟩
  exact below_new _ _

set_option maxRecDepth 100000 in
set_option maxHeartbeats 300000 in
theorem catch30 (ba be : Nat) (a y x z : Int) (older : List PanicEntry) (w : World) (hne : ba ≠ be) (h1 : w.cell? ⟨ba, 0, none⟩ = some (.int .i64 x)) (h2 : w.cell? ⟨be, 0, none⟩ = some (.int .i64 z)) (f1 : w.frozen? ⟨ba, 0, none⟩ = false) (f2 : w.frozen? ⟨be, 0, none⟩ = false) :
    CallsD Tryz.prog 30 #[.pointer (some ⟨ba, 0, none⟩), .pointer (some ⟨be, 0, none⟩)] (.panicking ({ v := .iface 91 (.agg #[.int .i64 a, .int .i64 y]), recovered := false } :: older)) w fun e u' w' =>
      e = .returned (.tuple #[]) ∧ u' = .panicking ({ v := .iface 91 (.agg #[.int .i64 a, .int .i64 y]), recovered := true } :: older) ∧ Only (fun k => k = ba ∨ k = be) w w' ∧ w'.cell? ⟨ba, 0, none⟩ = some (.int .i64 a) ∧ w'.cell? ⟨be, 0, none⟩ = some (.int .i64 y) := by
  refine callsD_of_wpS Tryz.func30 rfl fun c₀ cs hu => ?_
  have hta := ta_yes a y
  apply wpS_seq
  apply wpS_region
  simp [wpOpsS, go_sem, recoverD, hu, Tryz.ntmps30, Exit.thenS, hta]
  refine wpS_of_wp ?_
  refine post_letter ?_
  intro T Q hT hQ
  have hT' : T = #[.pointer (some ⟨ba, 0, none⟩), .pointer (some ⟨be, 0, none⟩), .pointer (some ⟨w.heap.size, 0, none⟩), .bool true, .tuple #[.agg #[.int .i64 a, .int .i64 y], .bool true], .iface 91 (.agg #[.int .i64 a, .int .i64 y]), .tuple #[.agg #[.int .i64 a, .int .i64 y], .bool true], .agg #[.int .i64 a, .int .i64 y], .bool true, undef, undef, undef, undef, undef] := hT.trans (by kernel_rfl)
  clear hT
  subst hT'
  replace hQ : Hid _ := hQ
  have hla : ba < w.heap.size := World.block_lt_of_cell? w _ h1
  have hle : be < w.heap.size := World.block_lt_of_cell? w _ h2
  have g1 := cell_keep (.cells #[.int .i64 a, .int .i64 y] 91) h1
  have g2 := cell_keep (.cells #[.int .i64 a, .int .i64 y] 91) h2
  replace hu : Hid _ := hu
  go_wp2_with fail
  go_region
  refine hQ.out _ _ _ ⟨rfl, _, rfl, .tuple #[], by kernel_rfl, rfl, rfl, ?_, ?_, ?_⟩
  · have o1 : Only (fun k => k = ba ∨ k = be) w (w.setCell ⟨ba, 0, none⟩ (.int .i64 a)) := ⟨rfl, rfl, rfl, by simp [World.setCell], fun k hk hn => Below.heap_setCell _ _ _ _ (fun e => hn (Or.inl e))⟩
    have o2 : Only (fun k => k = ba ∨ k = be) (w.setCell ⟨ba, 0, none⟩ (.int .i64 a)) ((w.setCell ⟨ba, 0, none⟩ (.int .i64 a)).setCell ⟨be, 0, none⟩ (.int .i64 y)) := ⟨rfl, rfl, rfl, by simp [World.setCell], fun k hk hn => Below.heap_setCell _ _ _ _ (fun e => hn (Or.inr e))⟩
    have o3 := only_new (o1.trans o2) (.cells #[.int .i64 a, .int .i64 y] 91)
    exact o3.trans (Below.only _ (by go_grown))
  · simp [go_sem]
    exact cell_keep _ (by simp [go_sem, h1, h2, hne, Ne.symm hne])
  · simp [go_sem]
    exact cell_keep _ (by simp [go_sem, h1, h2, hne, Ne.symm hne])

set_option maxRecDepth 100000 in
set_option maxHeartbeats 300000 in
theorem idle30 (ba be : Nat) (w : World) :
    CallsD Tryz.prog 30 #[.pointer (some ⟨ba, 0, none⟩), .pointer (some ⟨be, 0, none⟩)] .returning w fun e u' w' => e = .returned (.tuple #[]) ∧ u' = .returning ∧ Below w.heap.size w w' := by
  refine callsD_of_wpS Tryz.func30 rfl fun c₀ cs hu => ?_
  have hta := ta_no
  apply wpS_seq
  apply wpS_region
  simp [wpOpsS, go_sem, recoverD, hu, Tryz.ntmps30, Exit.thenS, hta]
  refine wpS_of_wp ?_
  refine post_letter ?_
  intro T Q hT hQ
  have hT' : T = #[.pointer (some ⟨ba, 0, none⟩), .pointer (some ⟨be, 0, none⟩), .pointer (some ⟨w.heap.size, 0, none⟩), .bool false, .tuple #[.agg #[.int .i64 0, .int .i64 0], .bool false], .nilIface, .tuple #[.agg #[.int .i64 0, .int .i64 0], .bool false], .agg #[.int .i64 0, .int .i64 0], .bool false, undef, undef, undef, undef, undef] := hT.trans (by kernel_rfl)
  clear hT
  subst hT'
  replace hQ : Hid _ := hQ
  replace hu : Hid _ := hu
  go_wp2_with fail
  refine hQ.out _ _ _ ⟨rfl, .returning, (by have h := hu.out; cases c₀; cases h; rfl), .tuple #[], by kernel_rfl, rfl, rfl, ?_⟩
  exact below_new _ _
 
end Go.Proofs.YtefenbonjepjgaaGreatDoor
