/-
  VfsNames: the walk of the statement's own text.
-/
import Derived.Test.YtgkijokgkaihoaaApp2
import Derived.Test.YtgkijokgkaihoaaHead
import Derived.Test.YtgkijokgkaihoaaNms
import Derived.WalkLawsBesides
import Derived.Deep.RegionHeld3
namespace Go.Proofs.Ytgkijokgkaihoaa
open Go.RowKit Go.WideMaps Go.Maps

/-- Behind Delete the file is not there. -/
theorem Delete_gone {w : World} {base p mb : Nat} {fv : Value} {S : St} (h : FsAt w base p mb fv S) (s : ByteArray) (hs : s.size ≤ maxLen) (hc : S.calls < 1125899906842624) :
    Calls Try.prog 16 #[.pointer (some ⟨p, 0, none⟩), .string s] w fun e w' => (∃ er : Int, e = .returned (.int .i64 er)) ∧
      ∃ S', FsAt w' base p mb fv S' ∧ FsFr p mb S.D w w' ∧ S'.calls = S.calls ∧ S'.C s.data.toList = [] := by
  refine (Delete_any h s hs hc).mono ?_
  rintro e w' ⟨rfl, hf, hr⟩
  refine ⟨⟨_, rfl⟩, _, hf, hr, ?_, ?_⟩
  · split <;> rfl
  · split
    · simp [delSt]
    · rename_i ht
      simpa [thr] using ht

/-- A file that is told has a page at least. -/
theorem name_pos {w : World} {base p mb : Nat} {fv : Value} {S : St} (h : FsAt w base p mb fv S) {t : List UInt8} (ht : t ∈ nms S) : decide (((S.C t).length : Int) < 1) = false := by
  have := (nms_mem h t).1 ht
  unfold thr at this
  cases hc : S.C t
  · rw [hc] at this; simp at this
  · simp; omega

theorem name_pages {w : World} {base p mb : Nat} {fv : Value} {S : St} (h : FsAt w base p mb fv S) {t : List UInt8} (ht : t ∈ nms S) (q : Nat) :
    Calls Try.prog 19 #[.pointer (some ⟨p, 0, none⟩), .string ⟨t.toArray⟩] (w.drewN q) fun e w' => e = .returned (.int .i64 ((S.C t).length : Nat)) ∧ w' = w.drewN q := by
  have hl := strKeys_le h.map Try.underlying9 t ((List.mem_mergeSort).1 ht)
  refine (Pages_any (h.drewN q) ⟨t.toArray⟩ (by simpa [ByteArray.size] using hl)).mono ?_
  rintro e w' ⟨rfl, rfl⟩
  exact ⟨by simp, rfl⟩

set_option maxRecDepth 100000 in
set_option maxHeartbeats 2000000 in
theorem names_walk (a1 : Option Addr) (n c : Nat) (D : Nat → OpV) (w : World) (hn : n ≤ 140737488355328) (hops : OpsAt w a1 n D) :
    Calls Try.prog 7 #[.slice a1 n c] w fun e w' => e = .returned (.bool true) ∧ Below w.heap.size w w' := by
  go_enter Try.func7, Try.ntmps7
  go_wp2_with (first
    | (go_at_call 9; refine (head_any _).mono ?_; rintro e w1 ⟨rfl, b1⟩)
    | (go_at_call 10; refine (New_nil _ _ (by decide) (by decide)).mono ?_; rintro e w2 ⟨p, mb, fv, rfl, h2, b2⟩))
  have b12 : Below w.heap.size w w2 := b1.trans (b2.mono b1.size)
  have hB := b1.size
  generalize w1.heap.size = B at h2 hB
  clear b1 b2
  go_loopw [5] (fun i wr => ∃ (k : Nat) (S : St), k ≤ n ∧ i = .int .i64 k ∧ FsAt wr B p mb fv S ∧ Below w.heap.size w wr ∧ S.calls ≤ k) (fun i _ => n - (intOf i).toNat)
  case atStart => exact ⟨0, _, Nat.zero_le _, rfl, h2, b12, by simp [newSt]⟩
  case round =>
    obtain ⟨k, S, hk, rfl, hf, hbw, hcl⟩ := hrel
    by_cases hlt : k < n
    · rcases hops with h0 | ⟨b, off, rfl, hall⟩
      · omega
      have hop0 := hall k hlt
      generalize D k = x at hop0
      have hop := hop0.below hbw
      clear hall h2 b12
      have k0 := hop.c0
      have k1 := hop.c1
      have k2 := hop.c2
      have hcs : S.calls < 1125899906842624 := by omega
      go_wp2_with fail
      · refine (Delete_gone hf x.name hop.nm hcs).mono ?_
        rintro e w3 ⟨⟨er, rfl⟩, S1, hfm, b3, hc3, hC3⟩
        have hbm : Below w.heap.size w w3 := hbw.trans ((b3.below hf).mono hB)
        have hcm : S1.calls ≤ k + 1 := by omega
        have k1' := (hop0.below hbm).c1
        clear hc3
        have hnone : thr S1 x.name.data.toList = false := by simp [thr, hC3]
        go_wp2_with (first
          | (go_at_call 19; refine (Pages_any hfm _ hop0.nm).mono ?_; rintro e w4 ⟨rfl, rfl⟩; rw [hC3])
          | (go_at_call 16; refine (Delete_none hfm _ hop0.nm hnone).mono ?_; rintro e w4 ⟨rfl, rfl⟩))
        go_wp2_with (go_at_call 22; refine (Names_any hfm).mono ?_; rintro e wN ⟨v, rfl, hrow, hbN⟩)
        obtain ⟨av, cap, rfl⟩ := row_form hrow
        have hfN := hfm.below hbN
        have hbwN := hbm.trans (hbN.mono hbm.size)
        have hlt2 := nms_lt hfN
        have hmem := nms_mem hfN
        have hL : (nms S1).length ≤ 256 := by rw [nms_len S1 hfN]; exact hfN.few
        obtain ⟨BN, hrowB⟩ : ∃ BN, wN.ownsRow BN 9 1 (.slice av (nms S1).length cap) (nms S1).length ((nms S1).map encStr) := ⟨_, hrow⟩
        clear hrow
        go_loopw [7] (fun i wx => ∃ jj : Nat, jj ≤ (nms S1).length ∧ i = .int .i64 jj ∧ FsAt wx B p mb fv S1 ∧ wx.ownsRow BN 9 1 (.slice av (nms S1).length cap) (nms S1).length ((nms S1).map encStr) ∧ Below w.heap.size w wx) (fun i _ => (nms S1).length - (intOf i).toNat)
        case atStart => exact ⟨0, Nat.zero_le _, rfl, hfN, hrowB, hbwN⟩
        case round =>
          clear hfN hrowB hbwN hbN hfm hbm
          obtain ⟨jj, hj, rfl, hfN, hrow, hbwN⟩ := hrel
          by_cases hjl : jj < (nms S1).length
          · obtain ⟨g, rfl⟩ : ∃ g, av = some ⟨g, 0, none⟩ := by
              rcases hrow.2 with ⟨_, h0⟩ | ⟨g, cap', cur, hv, _⟩
              · omega
              · exact ⟨g, by cases hv; rfl⟩
            have hin : (nms S1)[jj] ∈ nms S1 := List.getElem_mem hjl
            have hcj : wr.cell? ⟨g, jj, none⟩ = some (.string ⟨((nms S1)[jj]).toArray⟩) := by
              rw [hrow.cellAt jj (by omega)]
              simp [hjl, encStr]
            have hpg := name_pages hfN hin
            have hpos := name_pos hfN hin
            have hk0 : (0 : Int) ≤ (jj : Int) := by omega
            have hk1 : (jj : Int) < ((nms S1).length : Int) := by omega
            by_cases hj0 : jj = 0
            · have hg2 : decide ((0 : Int) < (jj : Int)) = false := by simp [hj0]
              have hg3 : decide (0 < jj) = false := by simp [hj0]
              generalize (nms S1)[jj] = tt at hcj hpg hpos hin
              clear hlt2 hmem hj0
              go_wp2_with fail
              go_quiet ((go_at_call 19; exact Calls.quiet_of_same (hpg _)))
              go_wp2
              go_roundw
              case rel => exact ⟨jj + 1, by omega, by go_num, hfN.drewN nq, row_same hrow (fun _ _ => rfl), ⟨hbwN.os, hbwN.tape, hbwN.output, hbwN.size, hbwN.block⟩⟩
              case measure => simp [intOf]; omega
            · obtain ⟨j', rfl⟩ : ∃ j', jj = j' + 1 := ⟨jj - 1, by omega⟩
              have hg2 : decide ((0 : Int) < ((j' + 1 : Nat) : Int)) = true := decide_eq_true (by omega)
              have hless := List.pairwise_iff_getElem.1 hlt2 j' (j' + 1) (by omega) hjl (by omega)
              have hcj' : wr.cell? ⟨g, j', none⟩ = some (.string ⟨((nms S1)[j']).toArray⟩) := by
                rw [hrow.cellAt j' (by omega)]
                simp [show j' < (nms S1).length by omega, encStr]
              have hg3 : decide ((0 : Int) < (j' : Int) + 1) = true := decide_eq_true (by omega)
              have hk4 : (0 : Int) ≤ (j' : Int) + 1 := by omega
              have hk5 : (j' : Int) + 1 < ((nms S1).length : Int) := by omega
              have hk2 : (0 : Int) ≤ (j' : Int) := by omega
              have hk3 : (j' : Int) < ((nms S1).length : Int) := by omega
              generalize (nms S1)[j' + 1] = tt at hcj hpg hpos hin hless
              generalize (nms S1)[j'] = tu at hcj' hless
              clear hlt2 hmem hj0
              go_wp2_with fail
              go_quiet ((go_at_call 19; exact Calls.quiet_of_same (hpg _)))
              go_wp2
              go_roundw
              case rel => exact ⟨j' + 1 + 1, by omega, by go_num, hfN.drewN nq, row_same hrow (fun _ _ => rfl), ⟨hbwN.os, hbwN.tape, hbwN.output, hbwN.size, hbwN.block⟩⟩
              case measure => simp [intOf]; omega
          · go_wp2
            go_roundw
            case rel => exact ⟨k + 1, S1, by omega, by go_num, hfN, hbwN, by omega⟩
            case measure => simp [intOf]; omega
      · have hfd : FsAt wr.drew B p mb fv S := hf.kept fun _ _ => rfl
        have hbd : Below w.heap.size w wr.drew := hbw.drew
        have hopd := hop0.below hbd
        have hk0 : (0 : Int) ≤ (k : Int) := by omega
        have hk1 : (k : Int) < (n : Int) := by omega
        go_region_held3 (fun w' => w'.cell? ⟨b, off + k * 4 + 1, none⟩ = some (.string x.name) ∧ w'.cell? ⟨b, off + k * 4 + 2, none⟩ = some (.slice x.av x.bl x.bc))
          (first | exact ⟨hopd.c1, hopd.c2⟩ | exact ⟨(hop0.below hbm).c1, (hop0.below hbm).c2⟩)
          (first
            | (go_at_call 12; refine (Append_any hfd x.name hop0.nm x.av x.bl x.bc x.pg hop0.len hopd.byt hcs).mono ?_; rintro e w3 ⟨rfl, S1, hfm, b3, hap⟩; have hbm : Below w.heap.size w w3 := hbd.trans ((b3.below hfd).mono hB)))
        have hcm : S1.calls ≤ k + 1 := by have := hap.calls; omega
        clear hap
        go_wp2_with (go_at_call 22; refine (Names_any hfm).mono ?_; rintro e wN ⟨v, rfl, hrow, hbN⟩)
        obtain ⟨av, cap, rfl⟩ := row_form hrow
        have hfN := hfm.below hbN
        have hbwN := hbm.trans (hbN.mono hbm.size)
        have hlt2 := nms_lt hfN
        have hmem := nms_mem hfN
        have hL : (nms S1).length ≤ 256 := by rw [nms_len S1 hfN]; exact hfN.few
        obtain ⟨BN, hrowB⟩ : ∃ BN, wN.ownsRow BN 9 1 (.slice av (nms S1).length cap) (nms S1).length ((nms S1).map encStr) := ⟨_, hrow⟩
        clear hrow
        go_loopw [7] (fun i wx => ∃ jj : Nat, jj ≤ (nms S1).length ∧ i = .int .i64 jj ∧ FsAt wx B p mb fv S1 ∧ wx.ownsRow BN 9 1 (.slice av (nms S1).length cap) (nms S1).length ((nms S1).map encStr) ∧ Below w.heap.size w wx) (fun i _ => (nms S1).length - (intOf i).toNat)
        case atStart => exact ⟨0, Nat.zero_le _, rfl, hfN, hrowB, hbwN⟩
        case round =>
          clear hfN hrowB hbwN hbN hfm hbm
          obtain ⟨jj, hj, rfl, hfN, hrow, hbwN⟩ := hrel
          by_cases hjl : jj < (nms S1).length
          · obtain ⟨g, rfl⟩ : ∃ g, av = some ⟨g, 0, none⟩ := by
              rcases hrow.2 with ⟨_, h0⟩ | ⟨g, cap', cur, hv, _⟩
              · omega
              · exact ⟨g, by cases hv; rfl⟩
            have hin : (nms S1)[jj] ∈ nms S1 := List.getElem_mem hjl
            have hcj : wr.cell? ⟨g, jj, none⟩ = some (.string ⟨((nms S1)[jj]).toArray⟩) := by
              rw [hrow.cellAt jj (by omega)]
              simp [hjl, encStr]
            have hpg := name_pages hfN hin
            have hpos := name_pos hfN hin
            have hk0 : (0 : Int) ≤ (jj : Int) := by omega
            have hk1 : (jj : Int) < ((nms S1).length : Int) := by omega
            by_cases hj0 : jj = 0
            · have hg2 : decide ((0 : Int) < (jj : Int)) = false := by simp [hj0]
              have hg3 : decide (0 < jj) = false := by simp [hj0]
              generalize (nms S1)[jj] = tt at hcj hpg hpos hin
              clear hlt2 hmem hj0
              go_wp2_with fail
              go_quiet ((go_at_call 19; exact Calls.quiet_of_same (hpg _)))
              go_wp2
              go_roundw
              case rel => exact ⟨jj + 1, by omega, by go_num, hfN.drewN nq, row_same hrow (fun _ _ => rfl), ⟨hbwN.os, hbwN.tape, hbwN.output, hbwN.size, hbwN.block⟩⟩
              case measure => simp [intOf]; omega
            · obtain ⟨j', rfl⟩ : ∃ j', jj = j' + 1 := ⟨jj - 1, by omega⟩
              have hg2 : decide ((0 : Int) < ((j' + 1 : Nat) : Int)) = true := decide_eq_true (by omega)
              have hless := List.pairwise_iff_getElem.1 hlt2 j' (j' + 1) (by omega) hjl (by omega)
              have hcj' : wr.cell? ⟨g, j', none⟩ = some (.string ⟨((nms S1)[j']).toArray⟩) := by
                rw [hrow.cellAt j' (by omega)]
                simp [show j' < (nms S1).length by omega, encStr]
              have hg3 : decide ((0 : Int) < (j' : Int) + 1) = true := decide_eq_true (by omega)
              have hk4 : (0 : Int) ≤ (j' : Int) + 1 := by omega
              have hk5 : (j' : Int) + 1 < ((nms S1).length : Int) := by omega
              have hk2 : (0 : Int) ≤ (j' : Int) := by omega
              have hk3 : (j' : Int) < ((nms S1).length : Int) := by omega
              generalize (nms S1)[j' + 1] = tt at hcj hpg hpos hin hless
              generalize (nms S1)[j'] = tu at hcj' hless
              clear hlt2 hmem hj0
              go_wp2_with fail
              go_quiet ((go_at_call 19; exact Calls.quiet_of_same (hpg _)))
              go_wp2
              go_roundw
              case rel => exact ⟨j' + 1 + 1, by omega, by go_num, hfN.drewN nq, row_same hrow (fun _ _ => rfl), ⟨hbwN.os, hbwN.tape, hbwN.output, hbwN.size, hbwN.block⟩⟩
              case measure => simp [intOf]; omega
          · go_wp2
            go_roundw
            case rel => exact ⟨k + 1, S1, by omega, by go_num, hfN, hbwN, by omega⟩
            case measure => simp [intOf]; omega
    · go_wp2
      go_ret
      exact ⟨rfl, hbw⟩
end Go.Proofs.Ytgkijokgkaihoaa
