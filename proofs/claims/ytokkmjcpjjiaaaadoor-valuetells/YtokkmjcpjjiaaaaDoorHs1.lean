/-
  Hash of the program.
-/
import Derived.Test.YtokkmjcpjjiaaaaDoorHsh
namespace Go.Proofs.YtokkmjcpjjiaaaaDoor
open Go.RowKit
set_option linter.unusedSimpArgs false
set_option linter.unusedVariables false

set_option maxRecDepth 100000 in
set_option maxHeartbeats 2000000 in
theorem Hash_any (a : Option Addr) (n c : Nat) (D : Nat → VV) (w : World) (hv : ValsAt w a n D) (hT : Tabs w) (hn : n * 64 ≤ 140737488351232) :
    Calls Tryd.prog 17 #[.slice a n c] w fun e w' => e = .returned (.int .u64 (hall D n)) ∧ Below w.heap.size w w' := by
  replace hv : Hid _ := hv
  replace hT : Hid _ := hT
  go_enter Tryd.func17, Tryd.ntmps17
  go_wp2
  go_loopw [3, 10] (fun x i wr => ∃ (j : Nat) (h : Int), j ≤ n ∧ i = .int .i64 j ∧ x = .int .u64 h ∧ Hid (h = hall D j) ∧ Below w.heap.size w wr) (fun _ i _ => n - (intOf i).toNat)
  case atStart => exact ⟨0, _, by omega, rfl, rfl, hall_zero D, Below.refl _ _⟩
  case round =>
    obtain ⟨j, h, j1, rfl, rfl, HH, hb⟩ := hrel
    have hszr := hb.size
    by_cases hj : j < n
    · obtain ⟨g, off, rfl, va⟩ := ValsAt.at (ValsAt.below hv.out hb) j hj
      obtain ⟨c0, c1, c2, c3, c4, hs, hl, hp⟩ := va
      have hE := fun w' (b : Below wr.heap.size wr w') => Enc_of (D j) hl hs w' (hp.below b) (Tabs.below (Tabs.below hT.out hb) b)
      replace hE : Hid _ := hE
      have HN : Hid (hall D (j + 1) = hfold (hall D j) (bytesOf (D j))) := rfl
      generalize bytesOf (D j) = bs at *
      generalize (D j).k = dk at *
      generalize (D j).b = db at *
      generalize (D j).n = dn at *
      generalize (D j).s = ds at *
      generalize (D j).p = dp at *
      generalize (D j).l = dl at *
      generalize (D j).c = dc at *
      clear hv hT hp hl
      go_wp2_with (go_at_call 11; refine Calls.mono (hE.out _ (by go_grown)) ?_; rintro e w1 ⟨v1, rfl, ho1, g1⟩; obtain ⟨va, vc, rfl⟩ := own_slice ho1)
      have hb1 : Below w.heap.size w w1 := below_on (by go_grown) g1
      have hlen := own_fits ho1
      replace ho1 : Hid _ := ho1
      clear c0 c1 c2 c3 c4
      go_loop [3, 17] (fun x i => ∃ (q : Nat) (h' : Int), q ≤ bs.length ∧ i = .int .i64 q ∧ x = .int .u64 h' ∧ Hid (h' = hfold h (bs.take q))) (fun _ i => bs.length - (intOf i).toNat)
      case atStart => exact ⟨0, _, by omega, rfl, rfl, rfl⟩
      case round =>
        obtain ⟨q, h', q1, rfl, rfl, HQ⟩ := hrel
        by_cases hq : q < bs.length
        · obtain ⟨g', cap', e', hc, -, -, -⟩ := own_at (n := bs.length) ho1.out q (by simpa using hq)
          have hc' : w1.cell? ⟨g', q, none⟩ = some (.int .u8 (bs.getD q 0)) := by rw [hc]; simp [hq]
          cases e'
          have HF : Hid (hfold h (bs.take (q + 1)) = hstep (hfold h (bs.take q)) (bs.getD q 0)) := hfold_next h bs q hq
          generalize bs.getD q 0 = z at *
          clear hc
          go_wp2_with fail
          refine ⟨⟨q + 1, _, by omega, by first | go_num | (congr 1; omega), rfl, ?_⟩, by simp [intOf]; omega⟩
          have e1 : hfold h (bs.take (q + 1)) = hstep h' z := by rw [HF.out, ← HQ.out]
          exact e1.symm
        · obtain rfl : q = bs.length := by omega
          have HE : Hid (h' = hall D (j + 1)) := by
            have := HQ.out
            rw [List.take_length] at this
            have e2 : hall D (j + 1) = hfold h bs := by rw [HN.out, ← HH.out]
            exact this.trans e2.symm
          go_wp2_with fail
          exact ⟨⟨j + 1, _, by omega, by first | go_num | (congr 1; omega), rfl, HE, hb1⟩, by simp [intOf]; omega⟩
    · obtain rfl : j = n := by omega
      clear hv hT
      go_wp2_with fail
      go_returns
      exact ⟨by rw [← HH.out]; rfl, hb⟩

end Go.Proofs.YtokkmjcpjjiaaaaDoor
