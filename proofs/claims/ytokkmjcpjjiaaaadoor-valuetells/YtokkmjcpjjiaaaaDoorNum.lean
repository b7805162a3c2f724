/-
  A number's bytes, put behind others: appendNumber of the program, put of the document.
-/
import Derived.Test.YtokkmjcpjjiaaaaDoorBox
import Derived.LoopTactic
import Derived.OwnWalk
import Derived.WalkMore
import Derived.Laws.AppendOwn
import Derived.Maps.AppendAt
import Derived.Deep.DeepCutAuto
namespace Go.Proofs.YtokkmjcpjjiaaaaDoor
open Go.RowKit
set_option linter.unusedSimpArgs false
set_option linter.unusedVariables false

theorem info5 : (Tryd.prog.info? 5).map (fun i => (i.zero, i.size, i.bytes)) = some (some (.int .u8 0), 1, 1) := by kernel_rfl
/-- The byte of a number at a place from its end. -/
def nbv (u : Int) (i : Nat) : Value := .int .u8 (u / 2 ^ (8 * i) % 256)
/-- A number's lowest so many bytes, the highest first. -/
def nb (u : Int) (wide : Nat) : List Value := (List.range wide).map fun j => nbv u (wide - 1 - j)
theorem nb_take (u : Int) (wide j : Nat) (h : j < wide) : (nb u wide).take (j + 1) = (nb u wide).take j ++ [nbv u (wide - 1 - j)] := by
  rw [List.take_succ_eq_append_getElem (by simpa [nb] using h)]
  simp [nb]
theorem nb_all (u : Int) (wide : Nat) : (nb u wide).take wide = nb u wide := List.take_of_length_le (by simp [nb])

set_option maxRecDepth 100000 in
theorem appendNumber_any (base : Nat) (v : Value) (n : Nat) (xs : List Value) (u : Int) (wide : Nat) (w : World) (hown : w.ownsRow base 5 1 v n xs) (hb : base ≤ w.heap.size) (hw : wide ≤ 8) (hn : n ≤ 100000) :
    Calls Tryd.prog 37 #[v, .int .u64 u, .int .i64 wide] w fun e w' => ∃ v', e = .returned v' ∧ w'.ownsRow base 5 1 v' (n + wide) (xs ++ nb u wide) ∧ Below base w w' := by
  obtain ⟨i0, hi0, hz0, hz1, hz2⟩ := info_parts info5
  go_enter Tryd.func37, Tryd.ntmps37
  go_wp2
  go_loopw [0, 7] (fun x i wr => ∃ j : Nat, j ≤ wide ∧ i = .int .i64 ((wide : Int) - 1 - j) ∧ wr.ownsRow base 5 1 x (n + j) (xs ++ (nb u wide).take j) ∧ Below base w wr) (fun _ i _ => (intOf i + 1).toNat)
  case atStart => exact ⟨0, by omega, by first | rfl | (simp; done) | (congr 1; omega), by simpa using hown, Below.refl _ _⟩
  case round =>
    obtain ⟨j, j1, rfl, ho, hbl⟩ := hrel
    have hsz := hbl.size
    by_cases hj : j < wide
    · have e1 : (0 : Int) ≤ (wide : Int) - 1 - j := by omega
      have e2 : (wide : Int) - 1 - j ≤ 7 := by omega
      have HT : Hid ((nb u wide).take (j + 1) = (nb u wide).take j ++ [nbv u (wide - 1 - j)]) := nb_take u wide j hj
      replace hown : Hid _ := hown
      go_wp2_with (at_builtin; refine wpList_append_own_at _ rfl _ _ 28 rfl base 5 i0 (.int .u8 0) 1 1 Tryd.underlying28 hi0 hz0 hz1 hz2 rfl (by decide) _ _ _ rfl (ho.alloc _) ⟨wr.heap.size, 0, none⟩ 1 1 [.int .u8 (u / 2 ^ (8 * (wide - 1 - j)) % 256)] rfl rfl (cell_one_new _ _ _) (by simp [Value.oneCell']) (by unfold maxLen; omega) (by omega) (by simp; omega) ?_; intro v4 w4 hown4 hgr4 hnil4 hloc4)
      have h4 : Below base w w4 := (hbl.alloc (Nat.le_trans hb hsz) _).grown hgr4 (by simp; omega) (fun k hk => (ho.lt k hk).1)
      refine ⟨⟨j + 1, by omega, by first | go_num | (congr 1; omega), ?_, h4⟩, by simp [intOf]; omega⟩
      rw [HT.out, ← List.append_assoc, ← Nat.add_assoc]
      exact hown4
    · have e1 : ¬ (0 : Int) ≤ (wide : Int) - 1 - j := by omega
      have ej : j = wide := by omega
      subst ej
      rw [nb_all] at ho
      replace hown : Hid _ := hown
      go_wp2_with fail
      go_returns
      exact ⟨_, rfl, ho, hbl⟩

set_option maxRecDepth 100000 in
theorem put_any (base : Nat) (v : Value) (n : Nat) (xs : List Value) (u : Int) (wide : Nat) (w : World) (hown : w.ownsRow base 5 1 v n xs) (hb : base ≤ w.heap.size) (hw : wide ≤ 8) (hn : n ≤ 100000) :
    Calls Tryd.prog 49 #[v, .int .i64 wide, .int .u64 u] w fun e w' => ∃ v', e = .returned v' ∧ w'.ownsRow base 5 1 v' (n + wide) (xs ++ nb u wide) ∧ Below base w w' := by
  obtain ⟨i0, hi0, hz0, hz1, hz2⟩ := info_parts info5
  go_enter Tryd.func49, Tryd.ntmps49
  go_wp2
  go_loopw [0, 7] (fun x i wr => ∃ j : Nat, j ≤ wide ∧ i = .int .i64 ((wide : Int) - 1 - j) ∧ wr.ownsRow base 5 1 x (n + j) (xs ++ (nb u wide).take j) ∧ Below base w wr) (fun _ i _ => (intOf i + 1).toNat)
  case atStart => exact ⟨0, by omega, by first | rfl | (simp; done) | (congr 1; omega), by simpa using hown, Below.refl _ _⟩
  case round =>
    obtain ⟨j, j1, rfl, ho, hbl⟩ := hrel
    have hsz := hbl.size
    by_cases hj : j < wide
    · have e1 : (0 : Int) ≤ (wide : Int) - 1 - j := by omega
      have e2 : (wide : Int) - 1 - j ≤ 7 := by omega
      have HT : Hid ((nb u wide).take (j + 1) = (nb u wide).take j ++ [nbv u (wide - 1 - j)]) := nb_take u wide j hj
      replace hown : Hid _ := hown
      go_wp2_with (at_builtin; refine wpList_append_own_at _ rfl _ _ 28 rfl base 5 i0 (.int .u8 0) 1 1 Tryd.underlying28 hi0 hz0 hz1 hz2 rfl (by decide) _ _ _ rfl (ho.alloc _) ⟨wr.heap.size, 0, none⟩ 1 1 [.int .u8 (u / 2 ^ (8 * (wide - 1 - j)) % 256)] rfl rfl (cell_one_new _ _ _) (by simp [Value.oneCell']) (by unfold maxLen; omega) (by omega) (by simp; omega) ?_; intro v4 w4 hown4 hgr4 hnil4 hloc4)
      have h4 : Below base w w4 := (hbl.alloc (Nat.le_trans hb hsz) _).grown hgr4 (by simp; omega) (fun k hk => (ho.lt k hk).1)
      refine ⟨⟨j + 1, by omega, by first | go_num | (congr 1; omega), ?_, h4⟩, by simp [intOf]; omega⟩
      rw [HT.out, ← List.append_assoc, ← Nat.add_assoc]
      exact hown4
    · have e1 : ¬ (0 : Int) ≤ (wide : Int) - 1 - j := by omega
      have ej : j = wide := by omega
      subst ej
      rw [nb_all] at ho
      replace hown : Hid _ := hown
      go_wp2_with fail
      go_returns
      exact ⟨_, rfl, ho, hbl⟩
end Go.Proofs.YtokkmjcpjjiaaaaDoor
