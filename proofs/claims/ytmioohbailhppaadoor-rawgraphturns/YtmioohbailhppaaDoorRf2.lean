/-
  The document's own search: types.
-/
import Derived.Test.YtmioohbailhppaaDoorRf1
namespace Go.Proofs.YtmioohbailhppaaDoor
open Go.RowKit Go.Sort
set_option linter.unusedSimpArgs false
set_option linter.unusedVariables false

/-- The first type that may not be: its place and why; zeros: there is none. -/
def firstT (L : List TD) : Int × Int := match firstBad (typeErr L) L.length with
  | some j => (j, typeErr L j)
  | none => (0, 0)
set_option maxRecDepth 100000 in
theorem refTypes_any (a : Option Addr) (n c : Nat) (L : List TD) (w : World) (hn : L.length = n) (hm : n ≤ maxLen) (hL : TDsAt w a L) (hT : Tabs w) :
    Calls Tryd.prog 25 #[.slice a n c] w fun e w' => e = .returned (.tuple #[.int .i64 (firstT L).1, .int .i64 (firstT L).2]) ∧ Below w.heap.size w w' := by
  have hm' : n ≤ 9223372036854775807 := by unfold maxLen at hm; omega
  go_enter Tryd.func25, Tryd.ntmps25
  go_wp2_with fail
  go_loopw [4] (fun v wr => Below w.heap.size w wr ∧ ∃ j : Nat, j ≤ n ∧ v = .int .i64 j ∧ ∀ k, k < j → typeErr L k = 0) (fun v _ => n - (intOf v).toNat)
  case atStart => exact ⟨Below.refl _ _, 0, by omega, rfl, by simp⟩
  case round =>
    obtain ⟨hb, j, j1, rfl, hz⟩ := hrel
    by_cases hj : j < n
    · have hO := oneType_any a n c L j wr hn hm (hL.below hb) hj (hT.below hb)
      by_cases hE : typeErr L j = 0
      · rw [hE] at hO
        replace hO : Hid _ := hO
        replace hz : Hid _ := hz
        replace hE : Hid _ := hE
        go_wp2_with (go_at_call 43; refine Calls.mono hO.out ?_; rintro e w1 ⟨rfl, hb1⟩)
        exact ⟨⟨below_on hb hb1, j + 1, by omega, rfl, fun k hk => by rcases Nat.lt_succ_iff_lt_or_eq.1 hk with h | rfl; exact hz.out k h; exact hE.out⟩, by show n - ((j : Int) + 1).toNat < n - (j : Int).toNat; omega⟩
      · have hf : firstT L = ((j : Int), typeErr L j) := by unfold firstT; rw [firstBad_some (by omega) hz hE]
        generalize typeErr L j = E at hO hE hf
        have htb : (E != 0) = true := by simpa using hE
        replace hO : Hid _ := hO
        replace hz : Hid _ := hz
        replace hf : Hid _ := hf
        clear hE
        go_wp2_with (go_at_call 43; refine Calls.mono hO.out ?_; rintro e w1 ⟨rfl, hb1⟩)
        all_goals try (exfalso; simp_all; done)
        go_returns
        exact ⟨by rw [hf.out]; simp, below_on hb hb1⟩
    · have hf : firstT L = (0, 0) := by unfold firstT; rw [firstBad_none (fun k hk => hz k (by omega))]
      replace hz : Hid _ := hz
      replace hf : Hid _ := hf
      go_wp2_with fail
      go_returns
      exact ⟨by rw [hf.out]; simp, hb⟩
end Go.Proofs.YtmioohbailhppaaDoor
