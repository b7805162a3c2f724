/-
  Key of the document: the same.
-/
import Derived.Test.YtkcnpbckmdgfnaaGreatDoorTba
import Derived.Laws.BytesArg
import Derived.Deep.QuietTactic
import Derived.BigQuiet
import Derived.Lib.ConvBytes
import Derived.Lib.AtoiErrMem
namespace Go.Proofs.YtkcnpbckmdgfnaaGreatDoor
open Go.RowKit
set_option linter.unusedSimpArgs false
set_option linter.unusedVariables false

theorem below_drewN7 {B : Nat} {a w : World} (h : Below B a w) (n : Nat) : Below B a (w.drewN n) := ⟨h.os, h.tape, h.output, h.size, h.block⟩
/-- The first bytes made great. -/
def upTo (l : List UInt8) (k : Nat) : List UInt8 := (l.take k).map up ++ l.drop k
theorem upTo_len (l : List UInt8) (k : Nat) : (upTo l k).length = l.length := by
  simp [upTo]
  omega
theorem upTo_zero (l : List UInt8) : upTo l 0 = l := by simp [upTo]
theorem upTo_all (l : List UInt8) (k : Nat) (h : l.length ≤ k) : upTo l k = l.map up := by
  unfold upTo
  rw [List.take_of_length_le h, List.drop_eq_nil_of_le h, List.append_nil]
theorem upTo_at (l : List UInt8) (k : Nat) (h : k < l.length) : (upTo l k).getD k 0 = l.getD k 0 := by
  unfold upTo
  have e : ((l.take k).map up).length = k := by simp; omega
  rw [List.getD, List.getElem?_append_right (by omega), e, Nat.sub_self, List.getElem?_drop, Nat.add_zero]
  rfl
theorem upTo_succ (l : List UInt8) (k : Nat) (h : k < l.length) : upTo l (k + 1) = (upTo l k).set k (up (l.getD k 0)) := by
  apply List.ext_getElem?
  intro i
  unfold upTo
  have e : ((l.take k).map up).length = k := by simp; omega
  have e' : ((l.take (k + 1)).map up).length = k + 1 := by simp; omega
  have hk : l[k]? = some (l.getD k 0) := by simp [List.getD, h]
  by_cases h1 : i = k
  · subst h1
    rw [List.getElem?_append_left (by omega), List.getElem?_set_self (by simp; omega), List.getElem?_map, List.getElem?_take, if_pos (by omega), hk]
    rfl
  · rw [List.getElem?_set_ne (by omega)]
    by_cases h2 : i < k
    · rw [List.getElem?_append_left (by omega), List.getElem?_append_left (by omega)]
      simp only [List.getElem?_map, List.getElem?_take]
      rw [if_pos (by omega), if_pos h2]
    · rw [List.getElem?_append_right (by omega), List.getElem?_append_right (by omega), e, e', List.getElem?_drop, List.getElem?_drop]
      congr 1
      omega
theorem upTo_same (l : List UInt8) (k : Nat) (h : k < l.length) (hu : up (l.getD k 0) = l.getD k 0) : upTo l (k + 1) = upTo l k := by
  rw [upTo_succ l k h, hu, ← upTo_at l k h]
  apply List.ext_getElem?
  intro i
  by_cases e : i = k
  · subst e
    have hk : i < (upTo l i).length := by rw [upTo_len]; exact h
    rw [List.getElem?_set_self hk]
    simp [List.getD, hk]
  · rw [List.getElem?_set_ne (by omega)]
/-- Bytes in a row of the call's own. -/
structure BR (w : World) (g : Nat) (B : List UInt8) : Prop where
  c : ∀ i, i < B.length → w.cell? ⟨g, i, none⟩ = some (.int .u8 (B.getD i 0).toNat)
  f : ∀ i, i < B.length → w.frozen? ⟨g, i, none⟩ = false
theorem BR.below {w w' : World} {g : Nat} {B : List UInt8} (h : BR w g B) (hb : Below w.heap.size w w') : BR w' g B :=
  ⟨fun i hi => (hb.cell (World.block_lt_of_cell? w _ (h.c i hi))).trans (h.c i hi), fun i hi => (hb.frozen (p := ⟨g, i, none⟩) (World.block_lt_of_cell? w _ (h.c i hi))).trans (h.f i hi)⟩
theorem BR.set {w : World} {g : Nat} {B : List UInt8} (h : BR w g B) (k : Nat) (b : UInt8) : BR (w.setCell ⟨g, k, none⟩ (.int .u8 b.toNat)) g (B.set k b) := by
  refine ⟨fun i hi => ?_, fun i hi => ?_⟩
  · rw [List.length_set] at hi
    by_cases e : i = k
    · subst e
      rw [World.cell?_setCell_same _ _ _ (h.c i hi)]
      simp [List.getD, hi]
    · rw [World.cell?_setCell_other _ _ _ _ (by simp [Ne.symm e, e]), h.c i hi]
      simp [List.getD, List.getElem?_set, Ne.symm e]
  · rw [List.length_set] at hi
    simpa using h.f i hi
theorem bytes_new (w : World) (s : ByteArray) : BR (Lib.bytesWorld w 5 s) w.heap.size s.data.toList := by
  have hl : s.data.toList.length = s.size := Array.length_toList
  refine ⟨fun i hi => Lib.bytesWorld_cell w 5 s i (by omega), fun i hi => ?_⟩
  have h := Lib.bytesWorld_at_new w 5 s
  have hz : s.size ≤ (Lib.bytesCells w 5 s).size := by
    unfold Lib.bytesCells
    rw [Array.size_append, Array.size_map]
    exact Nat.le_add_right _ _
  simp only [World.frozen?, h]
  simp
  omega
theorem BR.conv {w : World} {g : Nat} {B : List UInt8} (h : BR w g B) (cap : Nat) : (convert 54 9 (.slice (some ⟨g, 0, none⟩) B.length cap)).run Tryz.prog w = .ok (.string (txt B)) w := by
  have := run_convert_bytes_arg (P := Tryz.prog) w 54 5 Tryz.underlying54 Tryz.underlying5 g 0 B.length cap (B.map fun b => (b.toNat : Int)) (by simp) (fun i hi => by
    have := h.c i (by simpa using hi)
    have hi' : i < B.length := by simpa using hi
    rw [Nat.zero_add, this]
    simp [List.getD, hi']) 9 Tryz.underlying9
  rw [this]
  have e : strOfNums (B.map fun b => (b.toNat : Int)) = txt B := by
    have : (strOfNums (B.map fun b => (b.toNat : Int))).data.toList = B := by
      rw [strOfNums_data, List.map_map]
      have : ((fun n : Int => UInt8.ofNat n.toNat) ∘ fun b : UInt8 => (b.toNat : Int)) = id := by
        funext b
        simp
      rw [this, List.map_id]
    rw [← txt_of (strOfNums _), this]
  rw [e]
theorem rowT_cell (w : World) (L : List (List UInt8)) (t : TypeId) (i : Nat) (hi : i < L.length) : (w.alloc (.cells (rowT L) t)).cell? ⟨w.heap.size, i, none⟩ = some (.string (txt (L.getD i []))) := by
  simp only [World.cell?, heap_alloc_new]
  simp [rowT, List.getD, hi]
set_option maxRecDepth 100000 in
theorem Keys_any (w : World) : Calls Tryz.prog 110 #[] w fun e w' => (∃ g, e = .returned (.slice (some ⟨g, 0, none⟩) 23 23) ∧ ∀ i, i < 23 → w'.cell? ⟨g, i, none⟩ = some (.string (txt (keysL.getD i [])))) ∧ Below w.heap.size w w' := by
  go_enter Tryz.func110, Tryz.ntmps110
  go_wp2_with fail
  go_returns
  exact ⟨⟨_, rfl, fun i hi => rowT_cell w keysL 9 i hi⟩, below_new _ _⟩
theorem key_is (l : List UInt8) (k : Nat) (hk : k < 23) (h : l.map up = keysL.getD k []) : keyL l = keysL.getD k [] := by
  have hm : keysL.getD k [] ∈ keysL := by
    have hl : k < keysL.length := hk
    rw [show keysL.getD k [] = keysL[k] by simp [List.getD, hl]]
    exact List.getElem_mem _
  unfold keyL
  rw [if_pos (List.any_eq_true.2 ⟨_, hm, decide_eq_true h⟩), h]
theorem key_none (l : List UInt8) (h : ∀ k, k < 23 → l.map up ≠ keysL.getD k []) : keyL l = [] := by
  unfold keyL
  rw [if_neg]
  intro ha
  obtain ⟨k, hk, e⟩ := List.any_eq_true.1 ha
  obtain ⟨i, hi, rfl⟩ := List.getElem_of_mem hk
  have := h i (by simpa [keysL] using hi)
  rw [show keysL.getD i [] = keysL[i] by simp [List.getD, hi]] at this
  exact this (of_decide_eq_true e)
set_option maxRecDepth 100000 in
set_option maxHeartbeats 4000000 in
theorem refKey_any (s : ByteArray) (hs : s.size ≤ maxLen) (w : World) : Calls Tryz.prog 82 #[.string s] w fun e w' => e = .returned (.string (txt (keyL s.data.toList))) ∧ Below w.heap.size w w' := by
  unfold maxLen at hs
  have hl : s.data.toList.length = s.size := Array.length_toList
  have hcv := Lib.run_convert_string_bytes (P := Tryz.prog) w 9 54 5 s Tryz.underlying9 Tryz.underlying54 Tryz.underlying5
  have hb0 := Lib.bytesWorld_below w 5 s
  have hr0 := bytes_new w s
  go_enter Tryz.func82, Tryz.ntmps82
  go_wp2_with fail
  clear hcv
  generalize hcap : grownCap w s.size 0 5 = cap
  generalize Lib.bytesWorld w 5 s = W0 at *
  go_loopw [4] (fun i wr => ∃ k : Nat, k ≤ s.size ∧ i = .int .i64 k ∧ BR wr w.heap.size (upTo s.data.toList k) ∧ Below w.heap.size w wr) (fun i _ => s.size - (intOf i).toNat)
  case atStart => exact ⟨0, by omega, rfl, by rw [upTo_zero]; exact hr0, hb0⟩
  case round =>
    clear hr0 hb0
    obtain ⟨k, hk, rfl, hr, hb⟩ := hrel
    by_cases hlt : k < s.size
    · have hc := hr.c k (by rw [upTo_len]; omega)
      have hf := hr.f k (by rw [upTo_len]; omega)
      rw [upTo_at _ _ (by omega)] at hc
      have hn := upTo_succ s.data.toList k (by omega)
      have hst := hr.set k (up (s.data.toList.getD k 0))
      rw [← hn] at hst
      have hut := up_t (s.data.toList.getD k 0)
      have hsm := upTo_same s.data.toList k (by omega)
      generalize s.data.toList.getD k 0 = C at *
      by_cases h1 : 97 ≤ C.toNat ∧ C.toNat ≤ 122
      · rw [if_pos h1] at hut
        obtain ⟨h1a, h1b⟩ := h1
        replace hst : Hid _ := hst
        replace hut : Hid _ := hut
        replace hn : Hid _ := hn
        clear hsm
        go_wp2_with fail
        have e32 : ((C.toNat : Int) - 32) = ((up C).toNat : Int) := by rw [hut.out]; omega
        rw [e32]
        exact ⟨⟨k + 1, by omega, rfl, hst.out, hb.setCell (Nat.le_refl _) _⟩, by show s.size - ((k : Int) + 1).toNat < s.size - (k : Int).toNat; omega⟩
      · rw [if_neg h1] at hut
        have hsame : upTo s.data.toList (k + 1) = upTo s.data.toList k := by
          have hu : up C = C := UInt8.toNat_inj.1 hut
          exact hsm hu
        replace hst : Hid _ := hst
        replace hut : Hid _ := hut
        replace hn : Hid _ := hn
        clear hsm
        by_cases h2 : 97 ≤ C.toNat
        · have h3 : ¬ C.toNat ≤ 122 := fun h => h1 ⟨h2, h⟩
          have hd1 : decide ((97 : Int) ≤ (C.toNat : Int)) = true := by simp; omega
          have hd2 : decide ((C.toNat : Int) ≤ 122) = false := by simp; omega
          clear h1
          go_wp2_with fail
          exact ⟨⟨k + 1, by omega, rfl, by rw [hsame]; exact hr, hb⟩, by show s.size - ((k : Int) + 1).toNat < s.size - (k : Int).toNat; omega⟩
        · clear h1
          go_wp2_with fail
          exact ⟨⟨k + 1, by omega, rfl, by rw [hsame]; exact hr, hb⟩, by show s.size - ((k : Int) + 1).toNat < s.size - (k : Int).toNat; omega⟩
    · have hall := upTo_all s.data.toList k (by omega)
      rw [hall] at hr
      have hz2 : (s.data.toList.map up).length = s.size := by rw [List.length_map]; exact hl
      have hH := key_is s.data.toList
      have hM := key_none s.data.toList
      generalize hRR : keyL s.data.toList = R at *
      replace hRR : Hid _ := hRR
      generalize s.data.toList.map up = G at *
      have hKs := fun w => Keys_any w
      replace hH : Hid _ := hH
      replace hM : Hid _ := hM
      replace hKs : Hid _ := hKs
      replace hr : Hid _ := hr
      clear hall
      go_wp2_with (go_at_call 110; refine Calls.mono (hKs.out _) ?_; rintro e W1 ⟨⟨g2, rfl, hks⟩, hb2⟩)
      have hr1 := hr.out.below hb2
      have hbb := below_on hb hb2
      replace hks : Hid _ := hks
      go_loopw [6] (fun i wr2 => ∃ j : Nat, j ≤ 23 ∧ i = .int .i64 j ∧ (∀ k, k < j → G ≠ keysL.getD k []) ∧ Below W1.heap.size W1 wr2) (fun i _ => 23 - (intOf i).toNat)
      case atStart => exact ⟨0, by omega, rfl, fun k hk => by omega, Below.refl _ _⟩
      case round =>
        obtain ⟨j, hj, rfl, hz, hbw⟩ := hrel
        replace hz : Hid _ := hz
        by_cases hlt2 : j < 23
        · have hc0 := hks.out j hlt2
          have hc := (hbw.cell (World.block_lt_of_cell? _ _ hc0)).trans hc0
          have hcv := fun q => (hr1.below (below_drewN7 hbw q)).conv cap
          rw [hz2] at hcv
          have hcv0 := hcv 0
          have hS := hH.out j hlt2
          generalize hKd : keysL.getD j [] = Kd at *
          replace hKd : Hid _ := hKd
          have hq := same_texts (a := txt Kd) (b := txt G)
          clear hc0
          by_cases he : G = Kd
          · have hR := hS he
            rw [he, decide_eq_true rfl] at hq
            subst hR
            subst he
            replace hS : Hid _ := hS
            go_wp2_with fail
            go_quiet (fail)
            go_wp2_with fail
            go_returns
            rw [hRR.out]
            exact ⟨rfl, below_on hbb (below_drewN7 hbw nq)⟩
          · rw [decide_eq_false (fun e => he (txt_inj e).symm)] at hq
            replace he : Hid _ := he
            replace hS : Hid _ := hS
            go_wp2_with fail
            go_quiet (fail)
            have hbq := below_drewN7 hbw nq
            generalize wr.drewN nq = wq at hbq ⊢
            go_wp2_with fail
            exact ⟨⟨j + 1, by omega, rfl, fun k hk => by
              by_cases e : k = j
              · subst e; rw [hKd.out]; exact he.out
              · exact hz.out k (by omega), hbq⟩, by show 23 - ((j : Int) + 1).toNat < 23 - (j : Int).toNat; omega⟩
        · have hR := hM.out (fun k hk => hz.out k (by omega))
          subst hR
          go_wp2_with fail
          go_returns
          rw [hRR.out]
          exact ⟨rfl, below_on hbb hbw⟩
end Go.Proofs.YtkcnpbckmdgfnaaGreatDoor
