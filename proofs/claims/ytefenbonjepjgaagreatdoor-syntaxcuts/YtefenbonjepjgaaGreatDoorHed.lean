/-
  The live question.
-/
import Derived.Test.YtefenbonjepjgaaGreatDoorPar
namespace Go.Proofs.YtefenbonjepjgaaGreatDoor
open Go.ChangeShapes Go.WideShapes Go.ChangeAt Go.RowKit
set_option linter.unusedSimpArgs false
set_option linter.unusedVariables false

def headQ : Qy := ⟨[⟨[⟨[97], [65]⟩, ⟨[98], []⟩], [⟨[101], [], false, 0, 0, 0⟩]⟩], [], false, [⟨.leaf 3 [97] [120] 0 false 0 [], [110]⟩], [], 3⟩
set_option maxRecDepth 100000 in
theorem head_live : parseL [77, 65, 84, 67, 72, 32, 40, 97, 58, 65, 41, 45, 91, 101, 93, 45, 62, 40, 98, 41, 32, 82, 69, 84, 85, 82, 78, 32, 97, 46, 120, 32, 65, 83, 32, 110, 32, 76, 73, 77, 73, 84, 32, 51] = .ok headQ [] := by kernel_rfl
theorem first_it {S : Nat → Prop} {x : Itm} {v : Value} {w : World} (h : RowS EIt 69 S [x] v w) : ∃ g c, v = .slice (some ⟨g, 0, none⟩) 1 c ∧ w.cell? ⟨g, 9, none⟩ = some (.string (txt x.n)) := by
  obtain ⟨C, h1, h2, h3⟩ := h
  match C, h3 with
  | [c], ⟨⟨sp, sn, sc, e, _⟩, _⟩ =>
    have hh := h1
    obtain ⟨_, ⟨_, e2⟩ | ⟨g, cap, cur, e1, _⟩⟩ := hh
    · cases e2
    · subst e1
      refine ⟨g, cap, rfl, ?_⟩
      rw [h1.cellAt 9 (show 9 < 1 * 10 by decide), e]
      rfl
theorem first_pt {S : Nat → Prop} {x : Pt} {v : Value} {w : World} (h : RowS EPt 61 S [x] v w) : ∃ g c p1 c1, v = .slice (some ⟨g, 0, none⟩) 1 c ∧ w.cell? ⟨g, 0, none⟩ = some (.slice p1 x.nodes.length c1) := by
  obtain ⟨C, h1, h2, h3⟩ := h
  match C, h3 with
  | [c], ⟨⟨p1, c1, p2, c2, e, _⟩, _⟩ =>
    have hh := h1
    obtain ⟨_, ⟨_, e2⟩ | ⟨g, cap, cur, e1, _⟩⟩ := hh
    · cases e2
    · subst e1
      refine ⟨g, cap, p1, c1, rfl, ?_⟩
      rw [h1.cellAt 0 (show 0 < 1 * 2 by decide), e]
      rfl
set_option maxRecDepth 100000 in
set_option maxHeartbeats 2000000 in
theorem head_any (w : World) (hT : Tabs w) : Calls Tryz.prog 9 #[] w fun e w' => e = .returned (.bool true) ∧ Below w.heap.size w w' := by
  have h0 : parseL (⟨#[77, 65, 84, 67, 72, 32, 40, 97, 58, 65, 41, 45, 91, 101, 93, 45, 62, 40, 98, 41, 32, 82, 69, 84, 85, 82, 78, 32, 97, 46, 120, 32, 65, 83, 32, 110, 32, 76, 73, 77, 73, 84, 32, 51]⟩ : ByteArray).data.toList = .ok headQ [] := head_live
  have hP := fun (_ : Unit) => parse10 ⟨#[77, 65, 84, 67, 72, 32, 40, 97, 58, 65, 41, 45, 91, 101, 93, 45, 62, 40, 98, 41, 32, 82, 69, 84, 85, 82, 78, 32, 97, 46, 120, 32, 65, 83, 32, 110, 32, 76, 73, 77, 73, 84, 32, 51]⟩ (by decide) w hT
  rw [h0] at hP
  replace hP : Hid _ := hP
  go_enter Tryz.func9, Tryz.ntmps9
  go_upto_region 2 with ((have hh := hP.out (); go_at_call 10; (with_reducible refine Calls.mono hh ?_); clear hh hP; rintro e w2 ⟨hb, v, rfl, v0, v1, v3, v4, hv, hx0, hx1, hx3, hx4⟩; have hv' : v = .agg #[v0, v1, .bool false, v3, v4, .int .i64 3] := hv; clear hv; subst hv'; obtain ⟨g0, c0, q0, d0, rfl, k0⟩ := first_pt hx0; obtain ⟨g3, c3, rfl, k3⟩ := first_it hx3; obtain ⟨p1, c1, e1⟩ := hx1.val; obtain ⟨p4, c4, e4⟩ := hx4.val; replace e1 : v1 = .slice p1 0 c1 := e1; replace e4 : v4 = .slice p4 0 c4 := e4; subst e1; subst e4; replace k3 : w2.cell? ⟨g3, 9, none⟩ = some (.string ⟨#[110]⟩) := k3; replace k0 : w2.cell? ⟨g0, 0, none⟩ = some (.slice q0 2 d0) := k0))
  clear hx0 hx1 hx3 hx4
  have m0 := cell_keep (.cells #[.slice (some ⟨g0, 0, none⟩) 1 c0, .slice p1 0 c1, .bool false, .slice (some ⟨g3, 0, none⟩) 1 c3, .slice p4 0 c4, .int .i64 3] 28) k0
  have m3 := cell_keep (.cells #[.slice (some ⟨g0, 0, none⟩) 1 c0, .slice p1 0 c1, .bool false, .slice (some ⟨g3, 0, none⟩) 1 c3, .slice p4 0 c4, .int .i64 3] 28) k3
  go_wp2_with fail
  exact ⟨rfl, .bool true, by kernel_rfl, rfl, hb.alloc hb.size _⟩
end Go.Proofs.YtefenbonjepjgaaGreatDoor
