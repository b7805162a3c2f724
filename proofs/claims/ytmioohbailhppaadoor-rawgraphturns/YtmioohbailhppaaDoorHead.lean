/-
  The live question: Check of two types of one label; Name of a name.
-/
import Derived.Test.YtmioohbailhppaaDoorChk
namespace Go.Proofs.YtmioohbailhppaaDoor
open Go.RowKit
set_option linter.unusedSimpArgs false
set_option linter.unusedVariables false

def tA : TD := ⟨⟨#[65]⟩, none, 0, 0, []⟩
def rA : RW := ⟨[tA, tA], [], [], []⟩
theorem name_A : nameB ⟨#[65]⟩ = true := by kernel_rfl
theorem name_a1 : nameB ⟨#[97, 49]⟩ = true := by kernel_rfl
theorem chk_A : chk rA = (1, 1, 42) := by
  have e0 : typeErr [tA, tA] 0 = 0 := by
    unfold typeErr
    rw [show nameB (([tA, tA] : List TD).getD 0 default).n = true from name_A]
    simp [firstAt, tA, anyBad]
  have e1 : typeErr [tA, tA] 1 = 42 := by
    unfold typeErr
    rw [show nameB (([tA, tA] : List TD).getD 1 default).n = true from name_A]
    simp [firstAt, tA]
  have hb : firstBad (typeErr rA.nt) rA.nt.length = some 1 := firstBad_some (by decide) (fun k hk => by have hk0 : k = 0 := (by omega); subst hk0; exact e0) (by rw [show rA.nt = [tA, tA] from rfl, e1]; decide)
  unfold chk
  rw [hb]
  simp only [show rA.nt = [tA, tA] from rfl, e1]
  rfl

set_option maxRecDepth 100000 in
theorem head_any (w : World) (hT : Tabs w) : Calls Tryd.prog 8 #[] w fun e w' => e = .returned (.bool true) ∧ Below w.heap.size w w' := by
  have hb := below_new w (.cells #[.string ⟨#[65]⟩, .slice none 0 0, .string ⟨#[65]⟩, .slice none 0 0] 51)
  have hTA : TDsAt (w.alloc (.cells #[.string ⟨#[65]⟩, .slice none 0 0, .string ⟨#[65]⟩, .slice none 0 0] 51)) (some ⟨w.heap.size, 0, none⟩) rA.nt := by
    refine .inr ⟨w.heap.size, 0, rfl, fun i hi => ?_⟩
    have hi' : i = 0 ∨ i = 1 := by
      have : i < 2 := hi
      omega
    rcases hi' with rfl | rfl
    all_goals
      refine ⟨?_, ?_, by decide, rfl, by decide, by decide, .inl rfl⟩
      all_goals
        simp only [World.cell?, heap_alloc_new]
        rfl
  have hC := Check_any (some ⟨w.heap.size, 0, none⟩) 2 2 none 0 0 none 0 0 none 0 0 rA (w.alloc (.cells #[.string ⟨#[65]⟩, .slice none 0 0, .string ⟨#[65]⟩, .slice none 0 0] 51)) rfl (by decide) (by decide) hTA rfl (by decide) (by decide) (.inl rfl) rfl (by decide) (.inl rfl) rfl (by decide) (.inl rfl) (hT.below hb)
  rw [chk_A] at hC
  have hN := fun w => Name_any ⟨#[97, 49]⟩ w (by decide)
  rw [name_a1] at hN
  replace hC : Hid _ := hC
  replace hN : Hid _ := hN
  go_enter Tryd.func8, Tryd.ntmps8
  go_wp2_with (first
    | (go_at_call 11; refine Calls.mono hC.out ?_; rintro e w1 ⟨rfl, hb1⟩)
    | (go_at_call 9; refine Calls.mono (hN.out _) ?_; rintro e w2 ⟨rfl, hb2⟩))
  go_returns
  exact ⟨by simp, below_on (below_on hb (below_on hb1 (below_new _ _))) hb2⟩
end Go.Proofs.YtmioohbailhppaaDoor
