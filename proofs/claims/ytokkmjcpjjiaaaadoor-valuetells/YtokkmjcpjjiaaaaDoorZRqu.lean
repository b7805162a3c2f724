/-
  Rqu: turned for the seats of values.
-/
import Derived.Test.YtokkmjcpjjiaaaaDoorZRow
import Derived.Test.YtokkmjcpjjiaaaaDoorZWra
import Derived.Test.YtokkmjcpjjiaaaaDoorZRky
import Derived.Maps.AppendAt
import Derived.Laws.BytesArg
namespace Go.Proofs.YtokkmjcpjjiaaaaDoor.S9
open Go.ChangeShapes Go.WideShapes Go.ChangeAt Go.RowKit
set_option linter.unusedSimpArgs false
set_option linter.unusedVariables false
/-- Bytes as cells. -/
def rowB (L : List UInt8) : List Value := L.map fun b => .int .u8 (b.toNat : Int)
theorem rowB_app (a b : List UInt8) : rowB (a ++ b) = rowB a ++ rowB b := by simp [rowB]
theorem conv_row {w : World} {base : Nat} {v : Value} {n : Nat} {L : List UInt8} (h : w.ownsRow base 5 1 v n (rowB L)) (hn : n = L.length) (hne : L ≠ []) : (convert 28 9 v).run Tryd.prog w = .ok (.string (txt L)) w := by
  subst hn
  have hh := h
  obtain ⟨h1, ⟨e1, e2⟩ | ⟨g, cap, cur, e1, e2⟩⟩ := hh
  · exact absurd (List.length_eq_zero_iff.1 e2) hne
  · subst e1
    have := run_convert_bytes_arg (P := Tryd.prog) w 28 5 Tryd.underlying28 Tryd.underlying5 g 0 L.length cap (L.map fun b => (b.toNat : Int)) (by simp) (fun i hi => by
      have hi' : i < L.length := by simpa using hi
      have := h.cellAt i (by omega)
      rw [Nat.zero_add, this]
      simp [rowB, List.getD, hi']) 9 Tryd.underlying9
    rw [this]
    have e : strOfNums (L.map fun b => (b.toNat : Int)) = txt L := by
      have : (strOfNums (L.map fun b => (b.toNat : Int))).data.toList = L := by
        rw [strOfNums_data, List.map_map]
        have : ((fun n : Int => UInt8.ofNat n.toNat) ∘ fun b : UInt8 => (b.toNat : Int)) = id := by
          funext b
          simp
        rw [this, List.map_id]
      rw [← txt_of (strOfNums _), this]
    rw [e]
def preQ (l : List UInt8) (k : Nat) : List UInt8 := 39 :: escS (l.take k)
theorem preQ_succ (s : ByteArray) (k : Nat) (h : k < s.size) : preQ s.data.toList (k + 1) = preQ s.data.toList k ++ escB (s[k]'h) := by
  have hl : s.data.toList.length = s.size := Array.length_toList
  unfold preQ
  rw [List.take_succ_eq_append_getElem (by omega), escS_app, List.cons_append]
  congr 2
  show escB _ ++ [] = _
  rw [List.append_nil]
  rfl
theorem escS_len : ∀ l : List UInt8, (escS l).length ≤ 2 * l.length
  | [] => Nat.le_refl _
  | b :: r => by
    have := escS_len r
    have hb : (escB b).length ≤ 2 := by unfold escB; split; simp; split <;> simp
    rw [escS_cons, List.length_append, List.length_cons]
    omega
theorem preQ_len (l : List UInt8) (k : Nat) : (preQ l k).length ≤ 2 * k + 1 := by
  have := escS_len (l.take k)
  unfold preQ
  rw [List.length_cons]
  have : (l.take k).length ≤ k := by simp; omega
  omega
set_option maxRecDepth 100000 in
set_option maxHeartbeats 2000000 in
theorem Quoted_any (s : ByteArray) (hs : s.size ≤ 1048576) (w : World) : Calls Tryd.prog 48 #[.string s] w fun e w' => e = .returned (.string (txt (quoL s.data.toList))) ∧ Below w.heap.size w w' := by
  have hl : s.data.toList.length = s.size := Array.length_toList
  obtain ⟨i0, hi0, hz0, hz1, hz2⟩ := info_parts infoB
  have ho0 : (w.alloc (.cells #[.int .u8 39] 5)).ownsRow w.heap.size 5 1 (.slice (some ⟨w.heap.size, 0, none⟩) 1 1) 1 [.int .u8 39] :=
    ⟨rfl, .inr ⟨w.heap.size, 1, #[.int .u8 39], rfl, Nat.le_refl _, heap_alloc_new _ _, Nat.le_refl _, by unfold maxLen; omega, rfl, rfl⟩⟩
  have hb0 := below_new w (.cells #[.int .u8 39] 5)
  replace hi0 : Hid _ := hi0
  replace hz0 : Hid _ := hz0
  replace hz1 : Hid _ := hz1
  replace hz2 : Hid _ := hz2
  replace ho0 : Hid _ := ho0
  replace hb0 : Hid _ := hb0
  go_enter Tryd.func48, Tryd.ntmps48
  go_wp2_with fail
  go_loopw [3, 4] (fun v i wr => ∃ (k m : Nat), k ≤ s.size ∧ i = .int .i64 k ∧ m = (preQ s.data.toList k).length ∧ wr.ownsRow w.heap.size 5 1 v m (rowB (preQ s.data.toList k)) ∧ Below w.heap.size w wr) (fun _ i _ => s.size - (intOf i).toNat)
  case atStart => exact ⟨0, 1, by omega, rfl, rfl, ho0.out, hb0.out⟩
  case round =>
    obtain ⟨k, m, hk, rfl, hm, ho, hb⟩ := hrel
    have hpl := preQ_len s.data.toList k
    have hsz := hb.size
    by_cases hlt : k < s.size
    · have hnx := preQ_succ s k hlt
      have hm63 : m ≤ 2097153 := by omega
      generalize preQ s.data.toList k = L at *
      generalize hL' : preQ s.data.toList (k + 1) = L' at *
      have hfin : ∀ (news : List UInt8) (v5 : Value) (w5 : World), escB (s[k]'hlt) = news → w5.ownsRow w.heap.size 5 1 v5 (m + news.length) (rowB L ++ rowB news) → ∃ m', m' = L'.length ∧ w5.ownsRow w.heap.size 5 1 v5 m' (rowB L') := fun news v5 w5 e h => by
        refine ⟨_, rfl, ?_⟩
        rw [hnx, e, rowB_app, List.length_append, ← hm]
        exact h
      replace hfin : Hid _ := hfin
      replace hnx : Hid _ := hnx
      replace hL' : Hid _ := hL'
      have hoA := fun o => ho.alloc o
      replace hoA : Hid _ := hoA
      replace ho : Hid _ := ho
      replace hb : Hid _ := hb
      by_cases h39 : (s[k]'hlt).toNat = 39
      · have he : escB (s[k]'hlt) = [92, 39] := by
          have : s[k]'hlt = 39 := UInt8.toNat_inj.1 h39
          rw [this]; rfl
        replace he : Hid _ := he
        go_wp2_with (at_builtin; refine wpList_append_own_at _ rfl _ _ 28 rfl w.heap.size 5 i0 _ 1 1 Tryd.underlying28 hi0.out hz0.out hz1.out hz2.out rfl (by decide) _ _ _ rfl (hoA.out _) ⟨wr.heap.size, 0, none⟩ 2 2 [.int .u8 92, .int .u8 39] rfl rfl (World.news_of_block (cs := #[.int .u8 92, .int .u8 39]) (t := 5) (fr := (0, 0)) (by simpa using heap_alloc_new wr (.cells #[.int .u8 92, .int .u8 39] 5))) (by simp [Value.oneCell']) (by unfold maxLen; omega) (by omega) (by simp; omega) ?_; intro v5 w5 ho5 hg5 hnil5 hloc5)
        obtain ⟨m', hm', hown'⟩ := hfin.out [92, 39] v5 w5 he.out ho5
        exact ⟨⟨k + 1, m', by omega, rfl, by rw [hL'.out]; exact hm', by rw [hL'.out]; exact hown', below_row (below_on hb.out (below_new _ _)) hg5 (hoA.out _) (Nat.le_refl _)⟩, by show s.size - ((k : Int) + 1).toNat < s.size - (k : Int).toNat; omega⟩
      ·
        by_cases h92 : (s[k]'hlt).toNat = 92
        · have he : escB (s[k]'hlt) = [92, 92] := by
            have : s[k]'hlt = 92 := UInt8.toNat_inj.1 h92
            rw [this]; rfl
          replace he : Hid _ := he
          go_wp2_with (at_builtin; refine wpList_append_own_at _ rfl _ _ 28 rfl w.heap.size 5 i0 _ 1 1 Tryd.underlying28 hi0.out hz0.out hz1.out hz2.out rfl (by decide) _ _ _ rfl (hoA.out _) ⟨wr.heap.size, 0, none⟩ 2 2 [.int .u8 92, .int .u8 92] rfl rfl (World.news_of_block (cs := #[.int .u8 92, .int .u8 92]) (t := 5) (fr := (0, 0)) (by simpa using heap_alloc_new wr (.cells #[.int .u8 92, .int .u8 92] 5))) (by simp [Value.oneCell']) (by unfold maxLen; omega) (by omega) (by simp; omega) ?_; intro v5 w5 ho5 hg5 hnil5 hloc5)
          obtain ⟨m', hm', hown'⟩ := hfin.out [92, 92] v5 w5 he.out ho5
          exact ⟨⟨k + 1, m', by omega, rfl, by rw [hL'.out]; exact hm', by rw [hL'.out]; exact hown', below_row (below_on hb.out (below_new _ _)) hg5 (hoA.out _) (Nat.le_refl _)⟩, by show s.size - ((k : Int) + 1).toNat < s.size - (k : Int).toNat; omega⟩
        ·
          by_cases h10 : (s[k]'hlt).toNat = 10
          · have he : escB (s[k]'hlt) = [92, 110] := by
              have : s[k]'hlt = 10 := UInt8.toNat_inj.1 h10
              rw [this]; rfl
            replace he : Hid _ := he
            go_wp2_with (at_builtin; refine wpList_append_own_at _ rfl _ _ 28 rfl w.heap.size 5 i0 _ 1 1 Tryd.underlying28 hi0.out hz0.out hz1.out hz2.out rfl (by decide) _ _ _ rfl (hoA.out _) ⟨wr.heap.size, 0, none⟩ 2 2 [.int .u8 92, .int .u8 110] rfl rfl (World.news_of_block (cs := #[.int .u8 92, .int .u8 110]) (t := 5) (fr := (0, 0)) (by simpa using heap_alloc_new wr (.cells #[.int .u8 92, .int .u8 110] 5))) (by simp [Value.oneCell']) (by unfold maxLen; omega) (by omega) (by simp; omega) ?_; intro v5 w5 ho5 hg5 hnil5 hloc5)
            obtain ⟨m', hm', hown'⟩ := hfin.out [92, 110] v5 w5 he.out ho5
            exact ⟨⟨k + 1, m', by omega, rfl, by rw [hL'.out]; exact hm', by rw [hL'.out]; exact hown', below_row (below_on hb.out (below_new _ _)) hg5 (hoA.out _) (Nat.le_refl _)⟩, by show s.size - ((k : Int) + 1).toNat < s.size - (k : Int).toNat; omega⟩
          · have he : escB (s[k]'hlt) = [s[k]'hlt] := by
              unfold escB
              rw [if_neg, if_neg]
              · intro e; rw [e] at h10; exact h10 rfl
              · rintro (e | e)
                · rw [e] at h39; exact h39 rfl
                · rw [e] at h92; exact h92 rfl
            replace he : Hid _ := he
            go_wp2_with (at_builtin; refine wpList_append_own_at _ rfl _ _ 28 rfl w.heap.size 5 i0 _ 1 1 Tryd.underlying28 hi0.out hz0.out hz1.out hz2.out rfl (by decide) _ _ _ rfl (hoA.out _) ⟨wr.heap.size, 0, none⟩ 1 1 [.int .u8 ((s[k]'hlt).toNat : Int)] rfl rfl (cell_one_new _ _ _) (by simp [Value.oneCell']) (by unfold maxLen; omega) (by omega) (by simp; omega) ?_; intro v5 w5 ho5 hg5 hnil5 hloc5)
            obtain ⟨m', hm', hown'⟩ := hfin.out [s[k]'hlt] v5 w5 he.out ho5
            exact ⟨⟨k + 1, m', by omega, rfl, by rw [hL'.out]; exact hm', by rw [hL'.out]; exact hown', below_row (below_on hb.out (below_new _ _)) hg5 (hoA.out _) (Nat.le_refl _)⟩, by show s.size - ((k : Int) + 1).toNat < s.size - (k : Int).toNat; omega⟩
    · have hall : preQ s.data.toList k = 39 :: escS s.data.toList := by
        unfold preQ
        rw [List.take_of_length_le (by omega)]
      have hq : quoL s.data.toList = preQ s.data.toList k ++ [39] := by
        rw [hall]; rfl
      have hm63 : m ≤ 2097153 := by omega
      have hne : preQ s.data.toList k ≠ [] := by rw [hall]; simp
      clear hall
      replace hq : Hid _ := hq
      generalize preQ s.data.toList k = L at *
      have hoA := fun o => ho.alloc o
      have hcv := fun v5 (w5 : World) (h : w5.ownsRow w.heap.size 5 1 v5 (m + 1) (rowB L ++ [.int .u8 39])) => conv_row (w := w5) (base := w.heap.size) (v := v5) (n := m + 1) (L := L ++ [39]) (by rw [rowB_app]; exact h) (by rw [List.length_append, ← hm]; rfl) (by simp)
      replace hoA : Hid _ := hoA
      replace hcv : Hid _ := hcv
      replace ho : Hid _ := ho
      replace hb : Hid _ := hb
      replace hne : Hid _ := hne
      go_wp2_with (first
        | (rw [hcv.out _ _ ho5])
        | (at_builtin; refine wpList_append_own_at _ rfl _ _ 28 rfl w.heap.size 5 i0 _ 1 1 Tryd.underlying28 hi0.out hz0.out hz1.out hz2.out rfl (by decide) _ _ _ rfl (hoA.out _) ⟨wr.heap.size, 0, none⟩ 1 1 [.int .u8 39] rfl rfl (cell_one_new _ _ _) (by simp [Value.oneCell']) (by unfold maxLen; omega) (by omega) (by simp; omega) ?_; intro v5 w5 ho5 hg5 hnil5 hloc5))
      go_returns
      exact ⟨by show Ending.returned (.string (txt (L ++ [39]))) = _; rw [hq.out], below_row (below_on hb.out (below_new _ _)) hg5 (hoA.out _) (Nat.le_refl _)⟩
end Go.Proofs.YtokkmjcpjjiaaaaDoor.S9
