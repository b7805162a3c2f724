/-
  A text between quotes, by the document.
-/
import Derived.Test.YtdnlnghgjjiajaaDoorQuo
import Derived.Test.YtdnlnghgjjiajaaDoorRfs
namespace Go.Proofs.YtdnlnghgjjiajaaDoor
open Go.RowKit
set_option linter.unusedSimpArgs false
set_option linter.unusedVariables false

/-- What the document's text answers. -/
def txtR (o : Option (List UInt8 × Nat)) : Value := match o with | none => .tuple #[.string ⟨#[]⟩, .int .i64 0] | some x => .tuple #[.string (txt x.1), .int .i64 ((x.2 : Int) + 2)]
theorem conv_row2 {w : World} {base : Nat} {v : Value} {n : Nat} {L : List UInt8} (h : w.ownsRow base 5 1 v n (rowB L)) (hn : n = L.length) : (convert 37 9 v).run Tryd.prog w = .ok (.string (txt L)) w := by
  by_cases hne : L = []
  · subst hne
    subst hn
    obtain ⟨h1, ⟨e1, e2⟩ | ⟨g, cap, cur, e1, e2⟩⟩ := h
    · subst e1
      exact run_convert_bytes_nil (P := Tryd.prog) w 37 5 Tryd.underlying37 Tryd.underlying5 0 0 9 Tryd.underlying9
    · subst e1
      exact run_convert_bytes_arg (P := Tryd.prog) w 37 5 Tryd.underlying37 Tryd.underlying5 g 0 0 cap [] rfl (fun i hi => absurd hi (by simp)) 9 Tryd.underlying9
  · exact conv_row h hn hne
theorem scan_nil : scanB [] = none := rfl
theorem scan_39 (r : List UInt8) : scanB (39 :: r) = some ([], 0) := by
  rw [scanB.eq_def]
  rfl
theorem scan_92 : scanB [92] = none := by
  rw [scanB.eq_def]
  rfl
theorem map_pre (b : UInt8) (j : Nat) (o : Option (List UInt8 × Nat)) : (o.map fun x => (b :: x.1, x.2 + j)) = pre [b] j o := by
  unfold pre
  congr 1
  funext x
  rw [Nat.add_comm]
  rfl
theorem text_scan (l : List UInt8) : textL l = match scanB l with | none => none | some x => if Lib.validD (l.take x.2) then some x else none := rfl
set_option maxRecDepth 100000 in
set_option maxHeartbeats 2000000 in
theorem reftext_any (s : ByteArray) (hs : s.size ≤ 4096) (a : Nat) (ha : a < s.size) (h39 : s[a]'ha = 39) (w : World) (hT : Tabs w) :
    Calls Tryd.prog 35 #[.string s, .int .i64 a] w fun e w' => e = .returned (txtR (textL (s.data.toList.drop (a + 1)))) ∧ Below w.heap.size w w' := by
  have hl : s.data.toList.length = s.size := Array.length_toList
  obtain ⟨i0, hi0, hz0, hz1, hz2⟩ := info_parts info5
  replace hi0 : Hid _ := hi0
  replace hz0 : Hid _ := hz0
  replace hz1 : Hid _ := hz1
  replace hz2 : Hid _ := hz2
  go_enter Tryd.func35, Tryd.ntmps35
  go_wp2_with fail
  go_loopw [6, 7, 8] (fun v i _ wr => ∃ (k m : Nat) (acc : List UInt8), a + 1 + k ≤ s.size ∧ i = .int .i64 ((a + 1 + k : Nat) : Int) ∧ m = acc.length ∧ m ≤ k ∧ wr.ownsRow w.heap.size 5 1 v m (rowB acc) ∧ scanB (s.data.toList.drop (a + 1)) = pre acc k (scanB (s.data.toList.drop (a + 1 + k))) ∧ Below w.heap.size w wr) (fun _ i _ _ => s.size - (intOf i).toNat)
  case atStart => exact ⟨0, 0, [], by omega, by simp, rfl, Nat.le_refl _, own_nil _ _ _ _, by rw [pre_nil, Nat.add_zero], Below.refl _ _⟩
  case round =>
    obtain ⟨k, m, acc, hk, rfl, hm, hmk, ho, hsc, hb⟩ := hrel
    have hsz := hb.size
    generalize hp : a + 1 + k = p at *
    by_cases hlt : p < s.size
    · have hdc := drop_cons s p hlt
      rw [hdc] at hsc
      have hoA := fun o => ho.alloc o
      replace hoA : Hid _ := hoA
      by_cases hC : s[p]'hlt = 39
      · have hC1 : (s[p]'hlt).toNat = 39 := by rw [hC]; rfl
        rw [hC, scan_39] at hsc
        have hex : (s.extract a p).data.toList = 39 :: (s.data.toList.drop (a + 1)).take k := by
          rw [show p = a + (k + 1) by omega, extract_mid, drop_cons s a ha, h39]
          rfl
        have hT3 : textL (s.data.toList.drop (a + 1)) = if Lib.validD ((s.data.toList.drop (a + 1)).take k) then some (acc, k) else none := by
          rw [text_scan, hsc]
          show (if Lib.validD ((s.data.toList.drop (a + 1)).take (k + 0)) then some (acc ++ [], k + 0) else none) = _
          rw [List.append_nil, Nat.add_zero]
        have hV := fun w hT => valid_any (s.extract a p) (by rw [ByteArray.size_extract]; omega) w hT
        rw [hex, valid_low 39 _ (by decide)] at hV
        have hcv := fun (w' : World) (hb' : Below wr.heap.size wr w') => conv_row2 (own_below ho hb') hm
        have hTr := hT.below hb
        clear hex hsc hdc
        generalize Lib.validD ((s.data.toList.drop (a + 1)).take k) = V at *
        replace hT3 : Hid _ := hT3
        replace hV : Hid _ := hV
        replace hcv : Hid _ := hcv
        replace ho : Hid _ := ho
        cases V
        · go_wp2_with (have hq := hV.out wr hTr; (go_at_call 23); refine Calls.mono hq ?_; clear hq; rintro e w1 ⟨rfl, hb1⟩)
          go_returns
          exact ⟨by rw [hT3.out]; rfl, below_on hb hb1⟩
        · go_wp2_with (first
            | (rw [hcv.out _ hb1])
            | (have hq := hV.out wr hTr; (go_at_call 23); refine Calls.mono hq ?_; clear hq; rintro e w1 ⟨rfl, hb1⟩))
          go_returns
          refine ⟨?_, below_on hb hb1⟩
          rw [hT3.out]
          show Ending.returned (.tuple #[.string (txt acc), .int .i64 ((p : Int) + 1 - a)]) = Ending.returned (.tuple #[.string (txt acc), .int .i64 ((k : Int) + 2)])
          rw [show (p : Int) + 1 - a = (k : Int) + 2 by omega]
      by_cases hD : s[p]'hlt = 92
      · have hD1 : (s[p]'hlt).toNat = 92 := by rw [hD]; rfl
        by_cases hp2 : p + 1 < s.size
        · have hdc2 := drop_cons s (p + 1) hp2
          rw [hD, hdc2, scan_esc] at hsc
          by_cases h1 : s[p + 1]'hp2 = 39
          · have h1n : (s[p + 1]'hp2).toNat = 39 := by rw [h1]; rfl
            rw [if_pos (.inl h1)] at hsc
            have hfin : ∀ (v5 : Value) (w5 : World), w5.ownsRow w.heap.size 5 1 v5 (m + 1) (rowB acc ++ rowB [(s[p + 1]'hp2)]) → w5.ownsRow w.heap.size 5 1 v5 (m + 1) (rowB (acc ++ [(s[p + 1]'hp2)])) := fun v5 w5 h => by rw [rowB_app]; exact h
            have hsc2 : scanB (s.data.toList.drop (a + 1)) = pre (acc ++ [(s[p + 1]'hp2)]) (k + 2) (scanB (s.data.toList.drop (p + 1 + 1))) := by
              rw [hsc, ← pre_pre, map_pre]
            clear hC hsc hdc hdc2
            replace hfin : Hid _ := hfin
            replace hsc2 : Hid _ := hsc2
            replace hb : Hid _ := hb
            replace ho : Hid _ := ho
            go_wp2_with (at_builtin; refine wpList_append_own_at _ rfl _ _ 37 rfl w.heap.size 5 i0 _ 1 1 Tryd.underlying37 hi0.out hz0.out hz1.out hz2.out rfl (by decide) _ _ _ rfl (hoA.out _) ⟨wr.heap.size, 0, none⟩ 1 1 [.int .u8 39] rfl rfl (cell_one_new _ _ _) (by simp [Value.oneCell']) (by unfold maxLen; omega) (by omega) (by simp; omega) ?_; intro v5 w5 ho5 hg5 hnil5 hloc5)
            exact ⟨⟨k + 2, m + 1, acc ++ [(s[p + 1]'hp2)], by omega, by congr 1; omega, by simp; omega, by omega, hfin.out _ _ (by rw [show rowB [s[p + 1]'hp2] = [.int .u8 39] by rw [h1]; rfl]; exact ho5), by rw [show a + 1 + (k + 2) = p + 1 + 1 by omega]; exact hsc2.out, below_row (below_on hb.out (below_new _ _)) hg5 (hoA.out _) (Nat.le_refl _)⟩, by show s.size - ((p : Int) + 1 + 1).toNat < s.size - (p : Int).toNat; omega⟩
          by_cases h2 : s[p + 1]'hp2 = 92
          · have h2n : (s[p + 1]'hp2).toNat = 92 := by rw [h2]; rfl
            rw [if_pos (.inr h2)] at hsc
            have hfin : ∀ (v5 : Value) (w5 : World), w5.ownsRow w.heap.size 5 1 v5 (m + 1) (rowB acc ++ rowB [(s[p + 1]'hp2)]) → w5.ownsRow w.heap.size 5 1 v5 (m + 1) (rowB (acc ++ [(s[p + 1]'hp2)])) := fun v5 w5 h => by rw [rowB_app]; exact h
            have hsc2 : scanB (s.data.toList.drop (a + 1)) = pre (acc ++ [(s[p + 1]'hp2)]) (k + 2) (scanB (s.data.toList.drop (p + 1 + 1))) := by
              rw [hsc, ← pre_pre, map_pre]
            clear hC hsc hdc hdc2
            replace hfin : Hid _ := hfin
            replace hsc2 : Hid _ := hsc2
            replace hb : Hid _ := hb
            replace ho : Hid _ := ho
            go_wp2_with (at_builtin; refine wpList_append_own_at _ rfl _ _ 37 rfl w.heap.size 5 i0 _ 1 1 Tryd.underlying37 hi0.out hz0.out hz1.out hz2.out rfl (by decide) _ _ _ rfl (hoA.out _) ⟨wr.heap.size, 0, none⟩ 1 1 [.int .u8 92] rfl rfl (cell_one_new _ _ _) (by simp [Value.oneCell']) (by unfold maxLen; omega) (by omega) (by simp; omega) ?_; intro v5 w5 ho5 hg5 hnil5 hloc5)
            exact ⟨⟨k + 2, m + 1, acc ++ [(s[p + 1]'hp2)], by omega, by congr 1; omega, by simp; omega, by omega, hfin.out _ _ (by rw [show rowB [s[p + 1]'hp2] = [.int .u8 92] by rw [h2]; rfl]; exact ho5), by rw [show a + 1 + (k + 2) = p + 1 + 1 by omega]; exact hsc2.out, below_row (below_on hb.out (below_new _ _)) hg5 (hoA.out _) (Nat.le_refl _)⟩, by show s.size - ((p : Int) + 1 + 1).toNat < s.size - (p : Int).toNat; omega⟩
          have h1n : ¬ (s[p + 1]'hp2).toNat = 39 := fun e => h1 (UInt8.toNat_inj.1 e)
          have h2n : ¬ (s[p + 1]'hp2).toNat = 92 := fun e => h2 (UInt8.toNat_inj.1 e)
          rw [if_neg (by rintro (e | e); exact h1 e; exact h2 e)] at hsc
          by_cases h3 : s[p + 1]'hp2 = 110
          · have h3n : (s[p + 1]'hp2).toNat = 110 := by rw [h3]; rfl
            rw [if_pos h3] at hsc
            have hfin : ∀ (v5 : Value) (w5 : World), w5.ownsRow w.heap.size 5 1 v5 (m + 1) (rowB acc ++ rowB [(10 : UInt8)]) → w5.ownsRow w.heap.size 5 1 v5 (m + 1) (rowB (acc ++ [(10 : UInt8)])) := fun v5 w5 h => by rw [rowB_app]; exact h
            have hsc2 : scanB (s.data.toList.drop (a + 1)) = pre (acc ++ [(10 : UInt8)]) (k + 2) (scanB (s.data.toList.drop (p + 1 + 1))) := by
              rw [hsc, ← pre_pre, map_pre]
            clear hC hsc hdc hdc2
            replace hfin : Hid _ := hfin
            replace hsc2 : Hid _ := hsc2
            replace hb : Hid _ := hb
            replace ho : Hid _ := ho
            go_wp2_with (at_builtin; refine wpList_append_own_at _ rfl _ _ 37 rfl w.heap.size 5 i0 _ 1 1 Tryd.underlying37 hi0.out hz0.out hz1.out hz2.out rfl (by decide) _ _ _ rfl (hoA.out _) ⟨wr.heap.size, 0, none⟩ 1 1 [.int .u8 10] rfl rfl (cell_one_new _ _ _) (by simp [Value.oneCell']) (by unfold maxLen; omega) (by omega) (by simp; omega) ?_; intro v5 w5 ho5 hg5 hnil5 hloc5)
            exact ⟨⟨k + 2, m + 1, acc ++ [(10 : UInt8)], by omega, by congr 1; omega, by simp; omega, by omega, hfin.out _ _ ho5, by rw [show a + 1 + (k + 2) = p + 1 + 1 by omega]; exact hsc2.out, below_row (below_on hb.out (below_new _ _)) hg5 (hoA.out _) (Nat.le_refl _)⟩, by show s.size - ((p : Int) + 1 + 1).toNat < s.size - (p : Int).toNat; omega⟩
          · have h3n : ¬ (s[p + 1]'hp2).toNat = 110 := fun e => h3 (UInt8.toNat_inj.1 e)
            rw [if_neg h3] at hsc
            have hN : textL (s.data.toList.drop (a + 1)) = none := by
              rw [text_scan, hsc]
              rfl
            replace hN : Hid _ := hN
            clear hsc ho hdc hdc2 hC
            go_wp2_with fail
            go_returns
            exact ⟨by rw [hN.out]; rfl, hb⟩
        · rw [hD, show s.data.toList.drop (p + 1) = [] from List.drop_eq_nil_of_le (by omega), scan_92] at hsc
          have hN : textL (s.data.toList.drop (a + 1)) = none := by
            rw [text_scan, hsc]
            rfl
          replace hN : Hid _ := hN
          clear hsc ho hdc hC
          go_wp2_with fail
          go_returns
          exact ⟨by rw [hN.out]; rfl, hb⟩
      · rw [scan_cons _ _ hC hD] at hsc
        have hC1 : ¬ (s[p]'hlt).toNat = 39 := fun e => hC (UInt8.toNat_inj.1 e)
        have hD1 : ¬ (s[p]'hlt).toNat = 92 := fun e => hD (UInt8.toNat_inj.1 e)
        have hfin : ∀ (v5 : Value) (w5 : World), w5.ownsRow w.heap.size 5 1 v5 (m + 1) (rowB acc ++ rowB [s[p]'hlt]) → w5.ownsRow w.heap.size 5 1 v5 (m + 1) (rowB (acc ++ [s[p]'hlt])) := fun v5 w5 h => by rw [rowB_app]; exact h
        have hsc2 : scanB (s.data.toList.drop (a + 1)) = pre (acc ++ [s[p]'hlt]) (k + 1) (scanB (s.data.toList.drop (p + 1))) := by
          rw [hsc, ← pre_pre, map_pre]
        clear hC hD hsc hdc
        replace hfin : Hid _ := hfin
        replace hsc2 : Hid _ := hsc2
        replace hb : Hid _ := hb
        replace ho : Hid _ := ho
        go_wp2_with (at_builtin; refine wpList_append_own_at _ rfl _ _ 37 rfl w.heap.size 5 i0 _ 1 1 Tryd.underlying37 hi0.out hz0.out hz1.out hz2.out rfl (by decide) _ _ _ rfl (hoA.out _) ⟨wr.heap.size, 0, none⟩ 1 1 [.int .u8 ((s[p]'hlt).toNat : Int)] rfl rfl (cell_one_new _ _ _) (by simp [Value.oneCell']) (by unfold maxLen; omega) (by omega) (by simp; omega) ?_; intro v5 w5 ho5 hg5 hnil5 hloc5)
        exact ⟨⟨k + 1, m + 1, acc ++ [s[p]'hlt], by omega, by congr 1; omega, by simp; omega, by omega, hfin.out _ _ ho5, by rw [show a + 1 + (k + 1) = p + 1 by omega]; exact hsc2.out, below_row (below_on hb.out (below_new _ _)) hg5 (hoA.out _) (Nat.le_refl _)⟩, by show s.size - ((p : Int) + 1).toNat < s.size - (p : Int).toNat; omega⟩
    · have hN : textL (s.data.toList.drop (a + 1)) = none := by
        rw [text_scan, hsc, List.drop_eq_nil_of_le (by omega), scan_nil]
        rfl
      replace hN : Hid _ := hN
      clear hsc ho
      go_wp2_with fail
      go_returns
      exact ⟨by rw [hN.out]; rfl, hb⟩
end Go.Proofs.YtdnlnghgjjiajaaDoor
