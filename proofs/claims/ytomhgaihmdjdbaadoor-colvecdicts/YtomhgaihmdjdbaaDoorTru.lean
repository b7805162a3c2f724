/-
  The places of what is true, of the program and of the document.
-/
import Derived.Test.YtomhgaihmdjdbaaDoorVal
import Derived.LoopTactic
import Derived.OwnWalk
import Derived.Laws.AppendOwn
import Derived.Maps.AppendAt
import Derived.Deep.DeepCutAuto
namespace Go.Proofs.YtomhgaihmdjdbaaDoor
open Go.RowKit
set_option linter.unusedSimpArgs false
set_option linter.unusedVariables false

theorem info3 : (Tryd.prog.info? 3).map (fun i => (i.zero, i.size, i.bytes)) = some (some (.int .i64 0), 1, 8) := by kernel_rfl
/-- Is it of Kind Bool, and true? -/
def isT (x : VV) : Bool := (x.k == 1) && x.b
/-- The places of what is true among the first n. -/
def trs (D : Nat → VV) : Nat → List Value
  | 0 => []
  | n + 1 => trs D n ++ (if isT (D n) = true then [.int .i64 (n : Int)] else [])
theorem trs_len (D : Nat → VV) : ∀ n, (trs D n).length ≤ n
  | 0 => by simp [trs]
  | n + 1 => by
    have := trs_len D n
    simp only [trs, List.length_append]
    split <;> simp <;> omega
theorem trs_yes (D : Nat → VV) (n : Nat) (h : isT (D n) = true) : trs D (n + 1) = trs D n ++ [.int .i64 (n : Int)] := by simp [trs, h]
theorem trs_no (D : Nat → VV) (n : Nat) (h : isT (D n) = false) : trs D (n + 1) = trs D n := by simp [trs, h]

theorem ValsAt.below {w w' : World} {a : Option Addr} {n : Nat} {D : Nat → VV} (h : ValsAt w a n D) (hb : Below w.heap.size w w') : ValsAt w' a n D := by
  rcases h with h | ⟨g, off, e, h⟩
  · exact .inl h
  · exact .inr ⟨g, off, e, fun i hi => (h i hi).below hb⟩
theorem ValsAt.at {w : World} {a : Option Addr} {n : Nat} {D : Nat → VV} (h : ValsAt w a n D) (i : Nat) (hi : i < n) : ∃ g off, a = some ⟨g, off, none⟩ ∧ ValAt w g (off + i * 5) (D i) := by
  rcases h with rfl | ⟨g, off, e, h⟩
  · omega
  · exact ⟨g, off, e, h i hi⟩

set_option maxRecDepth 100000 in
set_option maxHeartbeats 2000000 in
theorem rTrue_any (a : Option Addr) (n c : Nat) (D : Nat → VV) (w : World) (hv : ValsAt w a n D) (hn : n * 64 ≤ 140737488351232) :
    Calls Tryd.prog 23 #[.slice a n c] w fun e w' => ∃ v, e = .returned v ∧ w'.ownsRow w.heap.size 3 1 v (trs D n).length (trs D n) ∧ Below w.heap.size w w' := by
  obtain ⟨i0, hi0, hz0, hz1, hz2⟩ := info_parts info3
  replace hv : Hid _ := hv
  go_enter Tryd.func23, Tryd.ntmps23
  go_wp2
  go_loopw [3, 4] (fun x i wr => ∃ j : Nat, j ≤ n ∧ i = .int .i64 j ∧ wr.ownsRow w.heap.size 3 1 x (trs D j).length (trs D j) ∧ Below w.heap.size w wr) (fun _ i _ => n - (intOf i).toNat)
  case atStart => exact ⟨0, by omega, rfl, World.ownsRow_nil _ _ _ _, Below.refl _ _⟩
  case round =>
    obtain ⟨j, j1, rfl, ho, hb⟩ := hrel
    have hszr := hb.size
    have hlen := trs_len D j
    by_cases hj : j < n
    · obtain ⟨g, off, rfl, va⟩ := ValsAt.at (ValsAt.below hv.out hb) j hj
      obtain ⟨c0, c1, -, -, -, -, -, -⟩ := va
      clear hv
      cases hT : isT (D j) with
      | true =>
        have hk : (D j).k = 1 ∧ (D j).b = true := by simpa [isT] using hT
        rw [hk.1] at c0
        rw [hk.2] at c1
        have HT : Hid (trs D (j + 1) = trs D j ++ [.int .i64 (j : Int)]) := trs_yes D j hT
        clear hT hk
        generalize trs D j = xs at *
        go_wp2_with (at_builtin; refine wpList_append_own_at _ rfl _ _ 41 rfl w.heap.size 3 i0 (.int .i64 0) 1 8 Tryd.underlying41 hi0 hz0 hz1 hz2 rfl (by decide) _ _ _ rfl (ho.alloc _) ⟨wr.heap.size, 0, none⟩ 1 1 [.int .i64 (j : Int)] rfl rfl (cell_one_new _ _ _) (by simp [Value.oneCell']) (by unfold maxLen; omega) (by omega) (by simp; omega) ?_; intro v4 w4 ho4 hg4 hnil4 hloc4)
        have h4 : Below w.heap.size w w4 := (hb.alloc hszr _).grown hg4 (by simp; omega) (fun k hk => (ho.lt k hk).1)
        refine ⟨⟨j + 1, by omega, by first | go_num | (congr 1; omega), ?_, h4⟩, by simp [intOf]; omega⟩
        rw [HT.out, List.length_append]
        exact ho4
      | false =>
        have HT : Hid (trs D (j + 1) = trs D j) := trs_no D j hT
        by_cases hk : (D j).k = 1
        · have hb' : (D j).b = false := by simpa [isT, hk] using hT
          rw [hk] at c0
          rw [hb'] at c1
          clear hT hk hb'
          replace ho : Hid _ := ho
          go_wp2_with fail
          refine ⟨⟨j + 1, by omega, by first | go_num | (congr 1; omega), ?_, hb⟩, by simp [intOf]; omega⟩
          rw [HT.out]; exact ho.out
        · clear hT
          have hk' : ¬ ((D j).k == 1) = true := by simpa using hk
          generalize (D j).k = kk at *
          replace ho : Hid _ := ho
          go_wp2_with fail
          refine ⟨⟨j + 1, by omega, by first | go_num | (congr 1; omega), ?_, hb⟩, by simp [intOf]; omega⟩
          rw [HT.out]; exact ho.out
    · have ej : j = n := by omega
      subst ej
      clear hv
      replace ho : Hid _ := ho
      go_wp2_with fail
      go_returns
      exact ⟨_, rfl, ho.out, hb⟩
end Go.Proofs.YtomhgaihmdjdbaaDoor
