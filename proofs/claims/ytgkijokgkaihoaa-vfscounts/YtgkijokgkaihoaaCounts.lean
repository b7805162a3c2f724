/-
  VfsCounts: the walk of the statement's own text.
-/
import Derived.Test.YtgkijokgkaihoaaApp2
import Derived.Test.YtgkijokgkaihoaaRd
import Derived.Test.YtgkijokgkaihoaaNew2
namespace Go.Proofs.Ytgkijokgkaihoaa
open Go.RowKit Go.WideMaps Go.Maps

set_option maxRecDepth 100000 in
theorem counts_walk (fa : Option Addr) (fc : Nat) (zs : List Int) (a1 : Option Addr) (n c : Nat) (D : Nat → OpV) (w : World) (hfn : zs.length * 8 ≤ 140737488355328)
    (hfr : zs = [] ∨ ∃ b off, fa = some ⟨b, off, none⟩ ∧ ∀ i, i < zs.length → w.cell? ⟨b, off + i, none⟩ = some (.int .i64 (zs.getD i 0)))
    (hn : n ≤ 140737488355328) (hops : OpsAt w a1 n D) :
    Calls Try.prog 6 #[.slice fa zs.length fc, .slice a1 n c] w fun e w' => e = .returned (.bool true) ∧ Below w.heap.size w w' := by
  go_enter Try.func6, Try.ntmps6
  go_wp2_with (first
    | (go_at_call 9; refine (head_any _).mono ?_; rintro e w1 ⟨rfl, b1⟩)
    | (go_at_call 10; refine (New_any _ fa fc zs _ (by decide) (by decide) hfn (faults_below hfr b1)).mono ?_; rintro e w2 ⟨p, mb, fv, rfl, h2, b2⟩))
  have b12 : Below w.heap.size w w2 := b1.trans (b2.mono b1.size)
  have hB := b1.size
  generalize w1.heap.size = B at h2 hB
  clear b1 b2
  go_loopw [7] (fun i wr => ∃ (k : Nat) (S : St), k ≤ n ∧ i = .int .i64 k ∧ FsAt wr B p mb fv S ∧ Below w.heap.size w wr ∧ S.calls ≤ k) (fun i _ => n - (intOf i).toNat)
  case atStart => exact ⟨0, _, Nat.zero_le _, rfl, h2, b12, by simp [newSt]⟩
  case round =>
    obtain ⟨k, S, hk, rfl, hf, hbw, hcl⟩ := hrel
    by_cases hlt : k < n
    · rcases hops with h0 | ⟨b, off, rfl, hall⟩
      · omega
      have hop := (hall k hlt).below hbw
      generalize D k = x at hop
      clear hall h2 b12 hfr
      have k0 := hop.c0
      have k1 := hop.c1
      have k2 := hop.c2
      have k3 := hop.c3
      have hfa := hf.alloc (.cells #[.int .i64 x.what, .string x.name, .slice x.av x.bl x.bc, .int .i64 x.num] 31)
      have hbox : Below wr.heap.size wr (wr.alloc (.cells #[.int .i64 x.what, .string x.name, .slice x.av x.bl x.bc, .int .i64 x.num] 31)) := (Below.refl _ _).alloc (Nat.le_refl _) _
      have hcs : S.calls < 1125899906842624 := by omega
      have c0 := hf.c0
      have HB : Hid (∀ {wx : World}, FsFr p mb S.D (wr.alloc (.cells #[.int .i64 x.what, .string x.name, .slice x.av x.bl x.bc, .int .i64 x.num] 31)) wx → Below w.heap.size w wx) := fun {wx} hx => (hbw.alloc hbw.size _).trans ((hx.below hfa).mono hB)
      go_wp2_with (first
        | (go_at_call 24; refine (Calls_any hfa).mono ?_; rintro e w3 ⟨rfl, rfl⟩))
      · refine (Append_any hfa x.name hop.nm x.av x.bl x.bc x.pg hop.len (hop.byt.below hbox) hcs).mono ?_
        rintro e w4 ⟨rfl, S', h4, b4, hap⟩
        generalize apErr S x.name x.bl = er at hap
        have bw := HB.out b4
        rcases hap with ⟨rfl | rfl, rfl⟩ | ⟨⟨rfl, _⟩ | rfl | ⟨rfl, _⟩, rfl⟩ | ⟨rfl, _, _, v, u, rfl⟩
        all_goals
          go_wp2_with (first
            | (go_at_call 24; refine (Calls_any h4).mono ?_; rintro e w5 ⟨rfl, rfl⟩; first | rw [show (cntSt S).calls = S.calls + 1 from rfl] | rw [show (putSt (cntSt S) x.name.data.toList v (u, x.pg)).calls = S.calls + 1 from rfl] | skip))
          go_roundw
          case rel => exact ⟨k + 1, _, by omega, by go_num, h4, bw, by first | (show S.calls + 1 ≤ _; omega) | omega⟩
          case measure => simp [intOf]; omega
      · refine (Append_any hfa x.name hop.nm x.av x.bl x.bc x.pg hop.len (hop.byt.below hbox) hcs).mono ?_
        rintro e w4 ⟨rfl, S', h4, b4, hap⟩
        generalize apErr S x.name x.bl = er at hap
        have bw := HB.out b4
        rcases hap with ⟨rfl | rfl, rfl⟩ | ⟨⟨rfl, _⟩ | rfl | ⟨rfl, _⟩, rfl⟩ | ⟨rfl, _, _, v, u, rfl⟩
        all_goals
          go_wp2_with (first
            | (go_at_call 24; refine (Calls_any h4).mono ?_; rintro e w5 ⟨rfl, rfl⟩; first | rw [show (cntSt S).calls = S.calls + 1 from rfl] | rw [show (putSt (cntSt S) x.name.data.toList v (u, x.pg)).calls = S.calls + 1 from rfl] | skip))
          go_roundw
          case rel => exact ⟨k + 1, _, by omega, by go_num, h4, bw, by first | (show S.calls + 1 ≤ _; omega) | omega⟩
          case measure => simp [intOf]; omega
      · by_cases h0 : 0 ≤ x.num
        · have hd : decide (0 ≤ x.num) = true := by simpa using h0
          go_quiet ((go_at_call 19; exact Calls.quiet_of_same (Pages_any (hfa.drewN _) _ hop.nm)))
          go_wp2_with fail
          refine (Read_cnt (hfa.drewN nq) x.name hop.nm x.num (by omega)).mono ?_
          rintro e w4 ⟨v, er, rfl, h4, b4⟩
          have bw := HB.out ⟨b4.os, b4.tape, b4.output, b4.size, b4.block⟩
          by_cases hl : x.num < ((S.C x.name.data.toList).length : Int)
          · rw [if_pos ⟨h0, hl⟩] at h4
            have hd2 : decide (x.num < ((S.C x.name.data.toList).length : Int)) = true := by simpa using hl
            go_wp2_with (first
              | (go_at_call 24; refine (Calls_any h4).mono ?_; rintro e w5 ⟨rfl, rfl⟩; rw [show (cntSt S).calls = S.calls + 1 from rfl]))
            go_roundw
            case rel => exact ⟨k + 1, _, by omega, by go_num, h4, bw, by show S.calls + 1 ≤ _; omega⟩
            case measure => simp [intOf]; omega
          · rw [if_neg (fun hh => hl hh.2)] at h4
            have hd2 : decide (x.num < ((S.C x.name.data.toList).length : Int)) = false := by simpa using hl
            go_wp2_with (first
              | (go_at_call 24; refine (Calls_any h4).mono ?_; rintro e w5 ⟨rfl, rfl⟩))
            go_roundw
            case rel => exact ⟨k + 1, _, by omega, by go_num, h4, bw, by omega⟩
            case measure => simp [intOf]; omega
        · have hd : decide (0 ≤ x.num) = false := by simpa using h0
          go_quiet (fail)
          go_wp2_with fail
          refine (Read_cnt (hfa.drewN nq) x.name hop.nm x.num (by omega)).mono ?_
          rintro e w4 ⟨v, er, rfl, h4, b4⟩
          have bw := HB.out ⟨b4.os, b4.tape, b4.output, b4.size, b4.block⟩
          rw [if_neg (by omega)] at h4
          go_wp2_with (first
            | (go_at_call 24; refine (Calls_any h4).mono ?_; rintro e w5 ⟨rfl, rfl⟩))
          go_roundw
          case rel => exact ⟨k + 1, _, by omega, by go_num, h4, bw, by omega⟩
          case measure => simp [intOf]; omega
      · refine (Delete_any hfa x.name hop.nm hcs).mono ?_
        rintro e w4 ⟨rfl, h4, b4⟩
        have bw := HB.out b4
        obtain ⟨S', hS, h4', hcl'⟩ : ∃ S' : St, S'.calls = S.calls ∧ FsAt w4 B p mb fv S' ∧ True := by
          refine ⟨_, ?_, h4, trivial⟩
          split <;> rfl
        clear h4
        go_wp2_with (first
          | (go_at_call 24; refine (Calls_any h4').mono ?_; rintro e w5 ⟨rfl, rfl⟩; rw [hS]))
        go_roundw
        case rel => exact ⟨k + 1, _, by omega, by go_num, h4', bw, by omega⟩
        case measure => simp [intOf]; omega
    · go_wp2
      go_ret
      exact ⟨rfl, hbw⟩
end Go.Proofs.Ytgkijokgkaihoaa
