/-
  The dictionary's texts, handed out: Dict.
-/
import Derived.Test.YtomhgaihmdjdbaaDoorCol
import Derived.Maps.AppendAt
namespace Go.Proofs.YtomhgaihmdjdbaaDoor
open Go.RowKit
set_option linter.unusedSimpArgs false
set_option linter.unusedVariables false

theorem info9x : (Tryd.prog.info? 9).map (fun i => (i.zero, i.size, i.bytes)) = some (some (.string ⟨#[]⟩), 1, 16) := by kernel_rfl
theorem own_none {w : World} {k base : Nat} {e : TypeId} (size : Nat) (hb : base ≤ k) (h : w.heap[k]? = some (.cells #[] e)) : w.ownsRow base e size (.slice (some ⟨k, 0, none⟩) 0 0) 0 [] :=
  ⟨by simp, .inr ⟨k, 0, #[], rfl, hb, h, Nat.le_refl _, Nat.zero_le _, by simp, by simp⟩⟩
theorem grown_below {B : Nat} {W w w' : World} {row : Option Nat} (h : Below B W w) (hg : w.grownBy w' row) (hk : ∀ k, row = some k → B ≤ k) (hB : B ≤ W.heap.size) : Below B W w' :=
  ⟨hg.os.trans h.os, hg.tape.trans h.tape, hg.output.trans h.output, Nat.le_trans h.size hg.size, fun i hi => (hg.block i (by have := h.size; omega) (fun e => by have := hk i e.symm; omega)).trans (h.block i hi)⟩

set_option maxRecDepth 100000 in
theorem sl_yes (w : World) : (binOp BinOp.eql 54 (.slice none 0 0) (.slice none 0 0)).run Tryd.prog w = .ok (.bool true) w := by
  first | rfl | kernel_rfl
set_option maxRecDepth 100000 in
theorem sl_no (w : World) (a : Addr) (n c : Nat) : (binOp BinOp.eql 54 (.slice (some a) n c) (.slice none 0 0)).run Tryd.prog w = .ok (.bool false) w := by
  first | rfl | kernel_rfl
set_option maxRecDepth 100000 in
theorem clone_texts (base : Nat) (v : Value) (X : List ByteArray) (w : World) (ho : w.ownsRow base 9 1 v X.length (X.map .string)) (hX : X.length * 16 ≤ 140737488355328) :
    Calls Tryd.prog 48 #[v] w fun e w' => ∃ u, e = .returned u ∧ w'.ownsRow w.heap.size 9 1 u X.length (X.map .string) ∧ Below w.heap.size w w' := by
  rcases ho.2 with ⟨rfl, hn⟩ | ⟨g, cap, cur, rfl, hb, hg, hnc, hcm, hcs, htake⟩
  · have hX0 : X = [] := List.eq_nil_of_length_eq_zero hn
    subst hX0
    have hy := sl_yes w
    go_enter Tryd.func48, Tryd.ntmps48
    go_wp2_with fail
    go_returns
    exact ⟨_, rfl, World.ownsRow_nil _ _ _ _, by go_grown⟩
  · obtain ⟨i0, hi0, hz0, hz1, hz2⟩ := info_parts info9x
    have own0 : (w.alloc (.cells #[] 9)).ownsRow w.heap.size 9 1 (.slice (some ⟨w.heap.size, 0, none⟩) 0 0) 0 [] := own_none 1 (Nat.le_refl _) (heap_alloc_new _ _)
    have hcl : ∀ j u, (X.map Value.string)[j]? = some u → (w.alloc (.cells #[] 9)).cell? ((⟨g, 0, none⟩ : Addr).add j) = some u := fun j u hu => by
      have := ho.cells (g := g) rfl j u hu
      exact cell_keep _ this
    have h1 : ∀ u ∈ X.map Value.string, u.oneCell' = true := fun u hu => by
      obtain ⟨s, _, rfl⟩ := List.mem_map.1 hu
      rfl
    clear ho hg htake
    have hy := sl_no w ⟨g, 0, none⟩ X.length cap
    go_enter Tryd.func48, Tryd.ntmps48
    go_wp2_with (at_builtin; refine wpList_append_own_at _ rfl _ _ 54 rfl w.heap.size 9 i0 _ 1 16 Tryd.underlying54 hi0 hz0 hz1 hz2 rfl (by decide) _ _ _ rfl own0 ⟨g, 0, none⟩ X.length cap (X.map .string) rfl (by simp) hcl h1 (by unfold maxLen; omega) (by omega) (by simp) ?_; intro v' w' hown hgrow hnil hat)
    go_returns
    refine ⟨_, rfl, by simpa using hown, grown_below (below_new _ _) hgrow (fun k hk => by cases hk; exact Nat.le_refl _) (Nat.le_refl _)⟩

set_option maxRecDepth 100000 in
theorem Dict_any (base x : Nat) (C : Col) (w : World) (hC : ColAt w base x C) (hX : C.X.length * 16 ≤ 140737488355328) :
    Calls Tryd.prog 29 #[.pointer (some ⟨x, 0, none⟩)] w fun e w' => ∃ u, e = .returned u ∧ w'.ownsRow w.heap.size 9 1 u C.X.length (C.X.map .string) ∧ Below w.heap.size w w' := by
  have hcl := clone_texts base C.tv C.X w hC.o3 hX
  have c3 := hC.vb.c3
  obtain ⟨ta, tc, htv⟩ := own_slice hC.o3
  rw [htv] at hcl c3
  replace hcl : Hid _ := hcl
  clear hC htv
  go_enter Tryd.func29, Tryd.ntmps29
  go_wp2_with (go_at_call 48; refine Calls.mono hcl.out ?_; rintro e w1 ⟨u, rfl, ho, hb⟩)
  go_returns
  exact ⟨_, rfl, ho, hb⟩
end Go.Proofs.YtomhgaihmdjdbaaDoor
