/-
  VfsBounds returns true for every quota, every list of faults and every list of calls, and leaves what it was handed as it was; no conditions.
-/
import Derived.Test.YtgkijokgkaihoaaRows
import Derived.Test.YtgkijokgkaihoaaBounds
import Derived.Test.YtgkijokgkaihoaaOpen
import Derived.SizedLaws
import Derived.WalkKit
import Derived.ProofKit
import Derived.OpenShut
import Derived.ShutString
import Derived.ChangeOld
import Derived.Below
namespace Go.Proofs.Ytgkijokgkaihoaa
open Go.ChangeShapes Go.WideShapes Go.ChangeAt Go.RowKit
open Go.ChangeMaps (open_string shut_string)
set_option linter.unusedVariables false

set_option maxRecDepth 100000 in
theorem bounds_lifted (os : Os) (started : os.Started) (H : Type) (enc : TypeId × Value → H) :
    ReturnsInHanded {} Try.checked os 5 .any (Rows.vfsBoundsSpec.pre6 enc Try.prog Try.f5 Rows.vfsBoundsRow.domain false) (Rows.vfsBoundsSpec.post enc Try.prog Try.f5 false true false false) := by
  refine returnsInHanded_of_change_sized (C := Try.checked) own started (by kernel_rfl) Try.func5
    (ChangeSpec.witness6 (enc := enc) (C := Try.checked) false ⟨#[], #[.int .i64 0, .slice none 0 0, .slice none 0 0], []⟩ 8 (by kernel_rfl) (by kernel_rfl) (by kernel_rfl) (by kernel_rfl)) ?_
  intro W base args ds gs before hval0 hW hcnd hsz _
  have hval : ∀ (j : Nat) t v, Try.f5.params[j]? = some t → args[j]? = some v → Value.okWide Try.prog W .any base t v := hval0
  have hW' := hW
  obtain ⟨p, q, hA0, hV, rfl, hfz, hnd⟩ := hW
  have hA : DataW.TrodAll enc Try.prog W 0 (fun _ => true) true Try.f5.params.toList args.toList ds p := hA0
  rw [Try.params5] at hA hval
  obtain ⟨v9, vs9, d9, ds9, p9, q9, hargs, rfl, rfl, h9, r9⟩ := trodAll_cons hA
  obtain ⟨v0, vs0, d0, ds0, p0, q0, rfl, rfl, rfl, h0, r0⟩ := trodAll_cons r9
  obtain ⟨v1, vs1, d1, ds1, p1, q1, rfl, rfl, rfl, h1, r1⟩ := trodAll_cons r0
  obtain ⟨rfl, rfl, rfl⟩ := trodAll_nil r1
  obtain rfl : args = #[v9, v0, v1] := by cases args; simp_all
  obtain ⟨rfl, rfl⟩ := trodVars_none hV
  obtain ⟨qt, rfl, rfl, rfl, w9⟩ := open_int Try.underlying3 (hval 0 3 v9 rfl rfl) h9
  obtain ⟨a0, len0, cap0, rfl⟩ := okWide_slice Try.underlying22 (hval 1 22 v0 rfl rfl)
  obtain ⟨a1, len1, cap1, rfl⟩ := okWide_slice Try.underlying23 (hval 2 23 v1 rfl rfl)
  have hu := bounds_i64 w9
  have k0 := h0
  have k1 := h1
  have lt0 : ∀ x ∈ p0, x.block < W.heap.size := by obtain ⟨m, hm⟩ := k0; exact DataW.trod_lt m _ _ _ hm
  have lt1 : ∀ x ∈ p1, x.block < W.heap.size := by obtain ⟨m, hm⟩ := k1; exact DataW.trod_lt m _ _ _ hm
  obtain ⟨zs, hz, hrow, hx0⟩ : ∃ zs : List Int, zs.length = len0 ∧ (zs = [] ∨ ∃ b off, a0 = some ⟨b, off, none⟩ ∧ ∀ i, i < zs.length → W.cell? ⟨b, off + i, none⟩ = some (.int .i64 (zs.getD i 0))) ∧ (d0 = .nil ∧ len0 = 0 ∨ ∃ el sp, d0 = .slice el sp ∧ el.length = len0) := by
    obtain ⟨fuel, hf⟩ := h0
    exact open_faults (x := (d0, p0)) hf
  obtain ⟨D, hops, hx1⟩ : ∃ D, OpsAt W a1 len1 D ∧ (d1 = .nil ∧ len1 = 0 ∨ ∃ el sp, d1 = .slice el sp ∧ el.length = len1) := by
    obtain ⟨fuel, hf⟩ := h1
    exact open_ops (x := (d1, p1)) (fun _ => rfl) hf
  have l0 := len_of hsz (j := 1) (t := 22) (e := 3) rfl rfl Try.underlying22 bytes3 hx0
  have l1 := len_of hsz (j := 2) (t := 23) (e := 31) rfl rfl Try.underlying23 bytes31 hx1
  subst hz
  clear hA0 hval0
  refine (bounds_walk qt a0 cap0 zs a1 len1 cap1 D W hu.1 hu.2 (by omega) hrow (by omega) hops).mono fun e W' ⟨he, bel⟩ => ?_
  subst he
  exact ⟨_, rfl, _, _, _, [], _, [], hW', trodAll_mk1 (shut_bool Try.underlying4 _), (trodAll_cons_mk (shut_int Try.underlying3 w9) (trodAll_cons_mk (Below.trod laidOut (by kernel_rfl) (of_decide_eq_true (by kernel_rfl)) k0 bel lt0) (trodAll_cons_mk (Below.trod laidOut (by kernel_rfl) (of_decide_eq_true (by kernel_rfl)) k1 bel lt1) trodAll_mk0))), rfl, bel.frame _, fun h => by cases h⟩

theorem bounds_over : Rows.vfsBoundsRow.holds Try.pinned (OpenSpec.ofChange Rows.vfsBoundsSpec) :=
  OpenClaim.holds_of_wide 5 Try.f5 rfl rfl rfl rfl rfl rfl rfl ⟨rfl, rfl, rfl, rfl, rfl⟩ rfl rfl rfl rfl rfl (by kernel_rfl) Try.func5 (by kernel_rfl)
    (of_decide_eq_true (by kernel_rfl)) (by unfold Func.isWrapper; first | (rw [if_pos (by decide +kernel)]; kernel_rfl) | (rw [if_neg (by decide +kernel)]; exact ⟨rfl, rfl⟩))
    (fun os started H enc _ => bounds_lifted os started H enc)

theorem bounds_holds : Rows.VfsBoundsSaid := bounds_over
end Go.Proofs.Ytgkijokgkaihoaa
