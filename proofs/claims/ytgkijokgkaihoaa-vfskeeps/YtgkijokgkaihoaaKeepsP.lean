/-
  VfsKeeps returns true for every list of pages, every list of calls and every list of faults, and leaves what it was handed as it was; no conditions.
-/
import Derived.Test.YtgkijokgkaihoaaRows
import Derived.Test.YtgkijokgkaihoaaKeeps
import Derived.Test.YtgkijokgkaihoaaOpen
import Derived.SizedLaws
import Derived.WalkKit
import Derived.ProofKit
import Derived.OpenShut
import Derived.ShutString
import Derived.ChangeOld
import Derived.Below
namespace Go.Proofs.Ytgkijokgkaihoaa
open Go.ChangeShapes Go.WideShapes Go.ChangeAt Go.RowKit
open Go.ChangeMaps (open_string shut_string)
set_option linter.unusedVariables false

theorem bytes29 : Try.checked.prog.bytesOf 29 = 24 := by kernel_rfl

set_option maxRecDepth 100000 in
theorem keeps_lifted (os : Os) (started : os.Started) (H : Type) (enc : TypeId × Value → H) :
    ReturnsInHanded {} Try.checked os 4 .any (Rows.vfsKeepsSpec.pre6 enc Try.prog Try.f4 Rows.vfsKeepsRow.domain false) (Rows.vfsKeepsSpec.post enc Try.prog Try.f4 false true false false) := by
  refine returnsInHanded_of_change_sized (C := Try.checked) own started (by kernel_rfl) Try.func4
    (ChangeSpec.witness6 (enc := enc) (C := Try.checked) false ⟨#[], #[.slice none 0 0, .slice none 0 0, .slice none 0 0], []⟩ 8 (by kernel_rfl) (by kernel_rfl) (by kernel_rfl) (by kernel_rfl)) ?_
  intro W base args ds gs before hval0 hW hcnd hsz _
  have hval : ∀ (j : Nat) t v, Try.f4.params[j]? = some t → args[j]? = some v → Value.okWide Try.prog W .any base t v := hval0
  have hW' := hW
  obtain ⟨p, q, hA0, hV, rfl, hfz, hnd⟩ := hW
  have hA : DataW.TrodAll enc Try.prog W 0 (fun _ => true) true Try.f4.params.toList args.toList ds p := hA0
  rw [Try.params4] at hA hval
  obtain ⟨v9, vs9, d9, ds9, p9, q9, hargs, rfl, rfl, h9, r9⟩ := trodAll_cons hA
  obtain ⟨v1, vs1, d1, ds1, p1, q1, rfl, rfl, rfl, h1, r1⟩ := trodAll_cons r9
  obtain ⟨v0, vs0, d0, ds0, p0, q0, rfl, rfl, rfl, h0, r0⟩ := trodAll_cons r1
  obtain ⟨rfl, rfl, rfl⟩ := trodAll_nil r0
  obtain rfl : args = #[v9, v1, v0] := by cases args; simp_all
  obtain ⟨rfl, rfl⟩ := trodVars_none hV
  obtain ⟨a9, len9, cap9, rfl⟩ := okWide_slice Try.underlying40 (hval 0 40 v9 rfl rfl)
  obtain ⟨a1, len1, cap1, rfl⟩ := okWide_slice Try.underlying23 (hval 1 23 v1 rfl rfl)
  obtain ⟨a0, len0, cap0, rfl⟩ := okWide_slice Try.underlying22 (hval 2 22 v0 rfl rfl)
  have k9 := h9
  have k1 := h1
  have k0 := h0
  have lt9 : ∀ x ∈ p9, x.block < W.heap.size := by obtain ⟨m, hm⟩ := k9; exact DataW.trod_lt m _ _ _ hm
  have lt1 : ∀ x ∈ p1, x.block < W.heap.size := by obtain ⟨m, hm⟩ := k1; exact DataW.trod_lt m _ _ _ hm
  have lt0 : ∀ x ∈ p0, x.block < W.heap.size := by obtain ⟨m, hm⟩ := k0; exact DataW.trod_lt m _ _ _ hm
  obtain ⟨G, hpgs, hx9⟩ : ∃ G, PgsAt W a9 len9 G ∧ (d9 = .nil ∧ len9 = 0 ∨ ∃ el sp, d9 = .slice el sp ∧ el.length = len9) := by
    obtain ⟨fuel, hf⟩ := h9
    exact open_pages (x := (d9, p9)) (fun _ => rfl) hf
  obtain ⟨D, hops, hx1⟩ : ∃ D, OpsAt W a1 len1 D ∧ (d1 = .nil ∧ len1 = 0 ∨ ∃ el sp, d1 = .slice el sp ∧ el.length = len1) := by
    obtain ⟨fuel, hf⟩ := h1
    exact open_ops (x := (d1, p1)) (fun _ => rfl) hf
  obtain ⟨zs, hz, hrow, hx0⟩ : ∃ zs : List Int, zs.length = len0 ∧ (zs = [] ∨ ∃ b off, a0 = some ⟨b, off, none⟩ ∧ ∀ i, i < zs.length → W.cell? ⟨b, off + i, none⟩ = some (.int .i64 (zs.getD i 0))) ∧ (d0 = .nil ∧ len0 = 0 ∨ ∃ el sp, d0 = .slice el sp ∧ el.length = len0) := by
    obtain ⟨fuel, hf⟩ := h0
    exact open_faults (x := (d0, p0)) hf
  have l9 := len_of hsz (j := 0) (t := 40) (e := 29) rfl rfl Try.underlying40 bytes29 hx9
  have l1 := len_of hsz (j := 1) (t := 23) (e := 31) rfl rfl Try.underlying23 bytes31 hx1
  have l0 := len_of hsz (j := 2) (t := 22) (e := 3) rfl rfl Try.underlying22 bytes3 hx0
  subst hz
  clear hA0 hval0
  refine (keeps_walk a9 len9 cap9 G a1 len1 cap1 D a0 cap0 zs W (by omega) hpgs (by omega) hops (by omega) hrow).mono fun e W' ⟨he, bel⟩ => ?_
  subst he
  exact ⟨_, rfl, _, _, _, [], _, [], hW', trodAll_mk1 (shut_bool Try.underlying4 _), (trodAll_cons_mk (Below.trod laidOut (by kernel_rfl) (of_decide_eq_true (by kernel_rfl)) k9 bel lt9) (trodAll_cons_mk (Below.trod laidOut (by kernel_rfl) (of_decide_eq_true (by kernel_rfl)) k1 bel lt1) (trodAll_cons_mk (Below.trod laidOut (by kernel_rfl) (of_decide_eq_true (by kernel_rfl)) k0 bel lt0) trodAll_mk0))), rfl, bel.frame _, fun h => by cases h⟩

theorem keeps_over : Rows.vfsKeepsRow.holds Try.pinned (OpenSpec.ofChange Rows.vfsKeepsSpec) :=
  OpenClaim.holds_of_wide 4 Try.f4 rfl rfl rfl rfl rfl rfl rfl ⟨rfl, rfl, rfl, rfl, rfl⟩ rfl rfl rfl rfl rfl (by kernel_rfl) Try.func4 (by kernel_rfl)
    (of_decide_eq_true (by kernel_rfl)) (by unfold Func.isWrapper; first | (rw [if_pos (by decide +kernel)]; kernel_rfl) | (rw [if_neg (by decide +kernel)]; exact ⟨rfl, rfl⟩))
    (fun os started H enc _ => keeps_lifted os started H enc)

theorem keeps_holds : Rows.VfsKeepsSaid := keeps_over
end Go.Proofs.Ytgkijokgkaihoaa
