/-
  A new file system: the contract of New.
-/
import Derived.Test.YtgkijokgkaihoaaDel
namespace Go.Proofs.Ytgkijokgkaihoaa
open Go.RowKit Go.WideMaps Go.Maps
section
variable {w : World}

/-- One without files. -/
def newSt (quota : Int) (fs : List Int) : St := { D := .map [], C := fun _ => [], quota := quota, size := 0, calls := 0, fs := fs, failed := false }

/-- What New lays, as memory alone. -/
theorem new_step {w0 : World} {fv : Value} {fs : List Int} {base : Nat} (quota : Int) (hf : w0.ownsRow base 3 1 fv fs.length (fs.map (Value.int .i64))) (hs : fs.Pairwise (· ≤ ·)) (hl : fs.length < 4611686018427387904) (hb : base ≤ w0.heap.size)
    (h1 : -9223372036854775808 ≤ quota) (h2 : quota ≤ 9223372036854775807) :
    FsAt ((w0.alloc (.map #[] 0)).alloc (.cells (cellsOf w0.heap.size fv (newSt quota fs)) 54)) base (w0.heap.size + 1) w0.heap.size fv (newSt quota fs) := by
  have hm := World.ownsMap_made w0 Try.prog 9 heldR
  refine { blk := ?_, bp := by omega, bm := hb, map := ?_, few := by simp [newSt, Maps.size], fal := (hf.alloc _).alloc _, srt := hs, fbig := hl, pgs := ?_, has := ?_, pok := ?_, dis := ?_, tot := rfl, s1 := by simp [newSt], c0 := by simp [newSt], ql := h1, qh := h2 }
  · have := heap_alloc_new (w0.alloc (.map #[] 0)) (.cells (cellsOf w0.heap.size fv (newSt quota fs)) 54)
    simpa using this
  · exact map_exact (hm.alloc _)
  · intro s
    exact ⟨World.ownsRow_nil _ _ _ _, by simp [newSt]⟩
  · intro s; simp [newSt, Maps.has]
  · intro s; simp [newSt]
  · intro s s' _; left; simp [newSt, look, DataW.atKey, Value.ownBlock]

set_option maxRecDepth 100000 in
theorem New_nil (quota : Int) (w : World) (h1 : -9223372036854775808 ≤ quota) (h2 : quota ≤ 9223372036854775807) :
    Calls Try.prog 10 #[.int .i64 quota, .slice none 0 0] w fun e w' => ∃ p mb fv, e = .returned (.pointer (some ⟨p, 0, none⟩)) ∧ FsAt w' w.heap.size p mb fv (newSt quota []) ∧ Below w.heap.size w w' := by
  have hmm := @run_makeMap Try.prog
  go_enter Try.func10, Try.ntmps10
  go_wp2_with (first
    | (go_at_call 25; refine (Try.slices_Clone_int_nil _ _ _).mono ?_; rintro e w' ⟨rfl, rfl⟩)
    | (go_at_call 26; refine (Try.slices_Sort_int_none _ _ _).mono ?_; rintro e w' ⟨rfl, rfl⟩))
  go_ret
  exact ⟨_, _, _, rfl, new_step quota (World.ownsRow_nil _ _ _ _) (by simp) (by simp) (Nat.le_refl _) h1 h2, ((Below.refl _ _).alloc (Nat.le_refl _) _).alloc (by simp) _⟩
end
end Go.Proofs.Ytgkijokgkaihoaa
