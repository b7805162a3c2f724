/-
  ColvecTruths: its own walk.
-/
import Derived.Test.YtomhgaihmdjdbaaDoorOfh
namespace Go.Proofs.YtomhgaihmdjdbaaDoor
open Go.RowKit
set_option linter.unusedSimpArgs false
set_option linter.unusedVariables false

theorem trs_ints (D : Nat → VV) : ∀ n, ∃ zs : List Int, trs D n = zs.map (.int .i64)
  | 0 => ⟨[], rfl⟩
  | n + 1 => by
    obtain ⟨zs, h⟩ := trs_ints D n
    by_cases ht : isT (D n) = true
    · exact ⟨zs ++ [(n : Int)], by rw [trs_yes D n ht, h]; simp⟩
    · exact ⟨zs, by rw [trs_no D n (by simpa using ht), h]⟩
set_option maxRecDepth 100000 in
theorem same_hd (w : World) : Calls Tryd.prog 33 #[vv 2 false 3 ⟨#[]⟩ none 0 0, vv 2 false 3 ⟨#[]⟩ none 0 0] w fun e w' => e = .returned (.bool true) ∧ Below w.heap.size w w' := by
  unfold vv
  go_enter Tryd.func33, Tryd.ntmps33
  go_wp2
  go_rounds 1
  go_wp2_with fail
  go_returns
  exact ⟨rfl, by go_grown⟩
set_option maxRecDepth 100000 in
set_option maxHeartbeats 2000000 in
theorem head_any (w : World) : Calls Tryd.prog 9 #[] w fun e w' => e = .returned (.bool true) ∧ Below w.heap.size w w' := by
  have hT : TwoAt (w.alloc (.cells #[.int .i64 2, .bool false, .int .i64 3, .string ⟨#[]⟩, .slice none 0 0, .int .i64 0, .bool false, .int .i64 0, .string ⟨#[]⟩, .slice none 0 0] 39)) w.heap.size := by
    constructor <;> (simp only [World.cell?, heap_alloc_new]; simp)
  have hO := Of_hd _ w.heap.size hT
  replace hO : Hid _ := hO
  clear hT
  go_enter Tryd.func9, Tryd.ntmps9
  go_wp2_with (first
    | (go_at_call 13; refine Calls.mono hO.out ?_; rintro e w1 ⟨x, rfl, ⟨g1, p1, g2, p2, hh⟩, b1⟩; have hl := Len_any x _ 2 p2 w1 hh.a2; have hn := nulls_hd w1 x g1 p1 g2 p2 hh; have ha := at_hd w1 x g1 p1 g2 p2 hh; unfold vv at ha; replace hl : Hid _ := hl; replace hn : Hid _ := hn; replace ha : Hid _ := ha; clear hh)
    | (go_at_call 26; refine Calls.mono hl.out ?_; rintro e w2 ⟨rfl, rfl⟩)
    | (go_at_call 30; refine Calls.mono hn.out ?_; rintro e w3 ⟨rfl, rfl⟩)
    | (go_at_call 32; refine Calls.mono ha.out ?_; rintro e w4 ⟨rfl, b4⟩)
    | (go_at_call 33; refine (same_hd _).mono ?_; rintro e w5 ⟨rfl, b5⟩)
    | (go_at_call 11; refine (New_no 7 _ (by decide)).mono ?_; rintro e w6 ⟨rfl, rfl⟩))
  go_returns
  exact ⟨rfl, below_on (below_on (below_on (below_new w _) b1) b4) b5⟩

set_option maxRecDepth 100000 in
set_option maxHeartbeats 2000000 in
theorem Truths_walk (a : Option Addr) (n c : Nat) (D : Nat → VV) (w : World) (hv : ValsAt w a n D) (hn : n * 64 ≤ 140737488351232) :
    Calls Tryd.prog 5 #[.slice a n c] w fun e w' => e = .returned (.bool true) ∧ Below w.heap.size w w' := by
  have hA := fun w' (b : Below w.heap.size w w') => True_any a n c D w' (hv.below b) hn
  have hB := fun w' (b : Below w.heap.size w w') => rTrue_any a n c D w' (hv.below b) hn
  have hF := fun w' (b : Below w.heap.size w w') => Faults_any a n c D w' (hv.below b) hn
  have hG := fun w' (b : Below w.heap.size w w') => rFaults_any a n c D w' (hv.below b) hn
  have hHd := head_any w
  have hlen := trs_len D n
  obtain ⟨zs, hzs⟩ : ∃ zs : List Int, trs D n = zs.map (.int .i64) := trs_ints D n
  rw [hzs] at hA hB hlen
  generalize flt D n = fl at *
  replace hA : Hid _ := hA
  replace hB : Hid _ := hB
  replace hF : Hid _ := hF
  replace hG : Hid _ := hG
  replace hHd : Hid _ := hHd
  have hlz : zs.length ≤ n := by simpa using hlen
  clear hv hzs hlen
  go_enter Tryd.func5, Tryd.ntmps5
  go_wp2_with (first
    | (go_at_call 9; refine Calls.mono hHd.out ?_; rintro e w1 ⟨rfl, b1⟩)
    | (go_at_call 22; refine Calls.mono (hA.out _ b1) ?_; rintro e w2 ⟨v2, rfl, o2, b2⟩; replace b2 := below_on b1 b2; rw [List.length_map] at o2; obtain ⟨a2, c2, rfl⟩ := own_slice o2)
    | (go_at_call 23; refine Calls.mono (hB.out _ b2) ?_; rintro e w3 ⟨v3, rfl, o3, b3⟩; replace o2 := own_below o2 b3; replace b3 := below_on b2 b3; rw [List.length_map] at o3; obtain ⟨a3, c3, rfl⟩ := own_slice o3)
    | (go_at_call 24; refine Calls.mono (hF.out _ b3) ?_; rintro e w4 ⟨rfl, b4⟩; replace o2 := own_below o2 b4; replace o3 := own_below o3 b4; replace b4 := below_on b3 b4)
    | (go_at_call 25; refine Calls.mono (hG.out _ b4) ?_; rintro e w5 ⟨rfl, rfl⟩))
  clear hA hB hF hG hHd
  replace o2 : Hid _ := o2
  replace o3 : Hid _ := o3
  go_loopw [6] (fun i wr => ∃ j : Nat, j ≤ zs.length ∧ i = .int .i64 j ∧ Below w5.heap.size w5 wr) (fun i _ => zs.length - (intOf i).toNat)
  case atStart => exact ⟨0, by omega, rfl, Below.refl _ _⟩
  case round =>
    obtain ⟨j, j1, rfl, hb⟩ := hrel
    have B := below_on b4 hb
    by_cases hj : j < zs.length
    · obtain ⟨g2, k2, e2, d2, -, -, -⟩ := own_at (n := zs.length) (own_below o2.out hb) j hj
      obtain ⟨g3, k3, e3, d3, -, -, -⟩ := own_at (n := zs.length) (own_below o3.out hb) j hj
      have d2' : wr.cell? ⟨g2, j, none⟩ = some (.int .i64 (zs.getD j 0)) := by rw [d2]; simp [hj]
      have d3' : wr.cell? ⟨g3, j, none⟩ = some (.int .i64 (zs.getD j 0)) := by rw [d3]; simp [hj]
      cases e2
      cases e3
      clear d2 d3
      generalize zs.getD j 0 = z at *
      go_wp2_with fail
      go_region
      go_wp2_with fail
      exact ⟨⟨j + 1, by omega, by first | go_num | (congr 1; omega), hb.drew⟩, by simp [intOf]; omega⟩
    · obtain rfl : j = zs.length := by omega
      go_wp2_with fail
      go_returns
      exact ⟨rfl, B⟩
end Go.Proofs.YtomhgaihmdjdbaaDoor
