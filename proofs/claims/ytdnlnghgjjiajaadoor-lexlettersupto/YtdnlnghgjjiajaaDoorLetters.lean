/-
  LexLetters: its own walk.
-/
import Derived.Test.YtdnlnghgjjiajaaDoorLet
import Derived.Test.YtdnlnghgjjiajaaDoorNumbers
namespace Go.Proofs.YtdnlnghgjjiajaaDoor
open Go.RowKit
set_option linter.unusedSimpArgs false
set_option linter.unusedVariables false

theorem Lex_key (B K : List UInt8) (hK : K ∈ keysL) (hu : B.map up = K) (w : World) (hT : Tabs w) :
    Calls Tryd.prog 10 #[.string (txt B)] w fun e w' => (∃ g cap, e = .returned (.tuple #[.slice (some ⟨g, 0, none⟩) 1 cap, .int .i64 0, .int .i64 0]) ∧
      w'.cell? ⟨g, 0, none⟩ = some (.int .i64 2) ∧ w'.cell? ⟨g, 1, none⟩ = some (.string (txt K)) ∧ w'.cell? ⟨g, 3, none⟩ = some (.int .i64 0)) ∧ Below w.heap.size w w' := by
  obtain ⟨k1, k2, k3, k4⟩ := keys_small K hK
  have hl : B.length = K.length := by rw [← hu, List.length_map]
  have hne : B ≠ [] := fun e => k1 (by rw [← hu, e]; rfl)
  refine (Lex_at (txt B) (by rw [txt_size]; unfold maxLen; omega) w hT).mono ?_
  rw [txt_list, lex_key B K hne (ltr_of_up B K hK hu) (key_of_up B K hK hu) k1 (by omega)]
  rintro e w' ⟨v, rfl, ht, hb⟩
  rcases ht with ⟨_, ht⟩ | ⟨g, cap, rfl, hc⟩
  · cases ht
  · exact ⟨⟨g, cap, rfl, (hc 0 (show 0 < 1 by omega)).1, (hc 0 (show 0 < 1 by omega)).2.1, (hc 0 (show 0 < 1 by omega)).2.2.2⟩, hb⟩
theorem Lex_nokey (B K : List UInt8) (s : ByteArray) (hs : s.size ≤ 1048576) (hK : K ∈ keysL) (hu : B.map up = K) (w : World) (hT : Tabs w) :
    Calls Tryd.prog 10 #[.string (txt B ++ ⟨#[95]⟩ ++ s)] w fun e w' => (∃ (v : Value) (a f : Int), e = .returned (.tuple #[v, .int .i64 a, .int .i64 f]) ∧ (f ≠ 0 ∨ ∃ (n : Nat) (g : Nat) (cap : Nat), v = .slice (some ⟨g, 0, none⟩) (n + 1) cap ∧ w'.cell? ⟨g, 0, none⟩ = some (.int .i64 1) ∧ f = 0)) ∧ Below w.heap.size w w' := by
  obtain ⟨k1, k2, k3, k4⟩ := keys_small K hK
  have hl : B.length = K.length := by rw [← hu, List.length_map]
  have hne : B ≠ [] := fun e => k1 (by rw [← hu, e]; rfl)
  have e1 : (txt B ++ ⟨#[95]⟩ ++ s).data.toList = B ++ 95 :: s.data.toList := by
    rw [txt_app, Joins.data_append, txt_list]
    simp
  have hz : (txt B ++ (⟨#[95]⟩ : ByteArray) ++ s).size ≤ maxLen := by
    rw [ByteArray.size_append, txt_app, txt_size, List.length_append]
    show B.length + 1 + _ ≤ _
    unfold maxLen
    omega
  refine (Lex_at _ hz w hT).mono ?_
  rw [e1]
  have hh := lex_nokey B s.data.toList hne (ltr_of_up B K hK hu)
  generalize lexL (B ++ 95 :: s.data.toList) = X at *
  obtain ⟨L, a, f⟩ := X
  rintro e w' ⟨v, rfl, ht, hb⟩
  refine ⟨⟨v, a, f, rfl, ?_⟩, hb⟩
  by_cases hf : f = 0
  · rcases hh with hh | ⟨x, r, hx, hk⟩
    · exact .inl hh
    · dsimp only at hx
      subst hx
      rcases ht with ⟨_, ht⟩ | ⟨g, cap, rfl, hc⟩
      · cases ht
      · have := (hc 0 (by simp)).1
        simp only [Nat.zero_mul, List.getD_cons_zero, hk] at this
        exact .inr ⟨r.length, g, cap, rfl, this, hf⟩
  · exact .inl hf
theorem Key_made (B K : List UInt8) (hK : K ∈ keysL) (hu : B.map up = K) (w : World) (hT : Tabs w) :
    Calls Tryd.prog 13 #[.string (txt B)] w fun e w' => e = .returned (.string (txt K)) ∧ Below w.heap.size w w' := by
  obtain ⟨k1, k2, k3, k4⟩ := keys_small K hK
  have hl : B.length = K.length := by rw [← hu, List.length_map]
  have := Key_any (txt B) (by rw [txt_size]; omega) w hT
  rw [txt_list, key_of_up B K hK hu] at this
  exact this
theorem Key_not (B K : List UInt8) (hK : K ∈ keysL) (hu : B.map up = K) (w : World) (hT : Tabs w) :
    Calls Tryd.prog 13 #[.string (txt B ++ ⟨#[95]⟩)] w fun e w' => e = .returned (.string ⟨#[]⟩) ∧ Below w.heap.size w w' := by
  obtain ⟨k1, k2, k3, k4⟩ := keys_small K hK
  have hl : B.length = K.length := by rw [← hu, List.length_map]
  rw [txt_app]
  have := Key_any (txt (B ++ [95])) (by rw [txt_size, List.length_append]; show B.length + 1 < _; omega) w hT
  rw [txt_list, key_no95 _ (by simp)] at this
  exact this

set_option maxRecDepth 100000 in
set_option maxHeartbeats 4000000 in
theorem Letters_walk (q m : Int) (s : ByteArray) (q0 : 0 ≤ q) (q1 : q ≤ 255) (m0 : 0 ≤ m) (m1 : m ≤ 65535) (hs : s.size ≤ 1048576) (w : World) (hT : Tabs w) :
    Calls Tryd.prog 5 #[.int .u8 q, .int .u16 m, .string s] w fun e w' => e = .returned (.bool true) ∧ Below w.heap.size w w' := by
  have hH := head_any w hT
  have hKs := fun w => Keys_any w
  have hj : q % 23 < 23 := by omega
  have hj0 : 0 ≤ q % 23 := by omega
  replace hH : Hid _ := hH
  replace hKs : Hid _ := hKs
  go_enter Tryd.func5, Tryd.ntmps5
  go_wp2_with (first
    | (go_at_call 9; refine Calls.mono hH.out ?_; rintro e w1 ⟨rfl, hb1⟩)
    | (go_at_call 15; refine Calls.mono (hKs.out _) ?_; rintro e w2 ⟨⟨g2, rfl, hks⟩, hb2⟩))
  have hsm := keys_small _ (keys_in (q % 23).toNat (by omega))
  have hin := keys_in (q % 23).toNat (by omega)
  rw [List.getD] at hsm hin
  clear hks
  generalize keysL[(q % 23).toNat]?.getD [] = K at *
  have hT2 := hT.below (below_on hb1 hb2)
  have hbb := below_on hb1 hb2
  have hcv := Lib.run_convert_string_bytes (P := Tryd.prog) w2 9 37 5 (txt K) Tryd.underlying9 Tryd.underlying37 Tryd.underlying5
  have hb0 := Lib.bytesWorld_below w2 5 (txt K)
  have hr0 := bytes_new w2 (txt K)
  have hz : (txt K).size = K.length := txt_size K
  rw [txt_list] at hr0
  obtain ⟨hK0, hK8, hKl, hKu⟩ := hsm
  have hlt2 : w2.heap.size < (Lib.bytesWorld w2 5 (txt K)).heap.size := World.block_lt_of_cell? _ _ (hr0.c 0 (List.length_pos_iff.2 hK0))
  replace hKl : Hid _ := hKl
  replace hKu : Hid _ := hKu
  replace hin : Hid _ := hin
  rw [hcv]
  go_wp2_with fail
  clear hcv
  generalize hcap : grownCap w2 K.length 0 5 = cap
  generalize Lib.bytesWorld w2 5 (txt K) = W0 at *
  go_loopw [11] (fun i wr => ∃ (k : Nat) (B : List UInt8), k ≤ K.length ∧ i = .int .i64 k ∧ BR wr w2.heap.size B ∧ B.length = K.length ∧ B.map up = K ∧ (∀ j, k ≤ j → j < K.length → B.getD j 0 = K.getD j 0) ∧ Below w2.heap.size w2 wr) (fun i _ => K.length - (intOf i).toNat)
  case atStart => exact ⟨0, K, by omega, rfl, hr0, rfl, hKu.out, fun _ _ _ => rfl, hb0⟩
  case round =>
    clear hr0 hb0
    obtain ⟨k, B, hk, rfl, hr, hBl, hBu, hBk, hb⟩ := hrel
    by_cases hlt : k < K.length
    · have hc := hr.c k (by omega)
      have hf := hr.f k (by omega)
      have hcK := hBk k (Nat.le_refl _) hlt
      have hlo := low_up (K.getD k 0) (hKl.out _ (by rw [show K.getD k 0 = K[k] by simp [List.getD, hlt]]; exact List.getElem_mem _))
      have hst := hr.set k (UInt8.ofNat ((K.getD k 0).toNat + 32))
      have hKr := hKl.out (K.getD k 0) (by rw [show K.getD k 0 = K[k] by simp [List.getD, hlt]]; exact List.getElem_mem _)
      have hBset : (B.set k (UInt8.ofNat ((K.getD k 0).toNat + 32))).map up = K := by
        rw [List.map_set, hBu, hlo.1]
        apply List.ext_getElem?
        intro i
        by_cases e : i = k
        · subst e
          rw [List.getElem?_set_self hlt]
          simp [List.getD, hlt]
        · rw [List.getElem?_set_ne (by omega)]
      have hBk2 : ∀ j, k + 1 ≤ j → j < K.length → (B.set k (UInt8.ofNat ((K.getD k 0).toNat + 32))).getD j 0 = K.getD j 0 := fun j h1 h2 => by
        rw [List.getD, List.getElem?_set_ne (by omega), ← List.getD_eq_getElem?_getD]
        exact hBk j (by omega) h2
      rw [hcK] at hc
      obtain ⟨hlo1, hlo2⟩ := hlo
      rw [hlo2] at hst
      generalize K.getD k 0 = C at *
      replace hst : Hid _ := hst
      replace hBset : Hid _ := hBset
      replace hBk2 : Hid _ := hBk2
      replace hBk : Hid _ := hBk
      replace hBu : Hid _ := hBu
      replace hlo1 : Hid _ := hlo1
      replace hlo2 : Hid _ := hlo2
      go_wp2_with fail
      · have e32 : ((C.toNat : Int) + 32) = ((C.toNat + 32 : Nat) : Int) := by omega
        rw [e32]
        exact ⟨⟨k + 1, _, by omega, rfl, hst.out, by rw [List.length_set]; exact hBl, hBset.out, hBk2.out, hb.setCell (Nat.le_refl _) _⟩, by show K.length - ((k : Int) + 1).toNat < K.length - (k : Int).toNat; omega⟩
      · exact ⟨⟨k + 1, B, by omega, rfl, hr, hBl, hBu.out, fun j h1 h2 => hBk.out j (by omega) h2, hb⟩, by show K.length - ((k : Int) + 1).toNat < K.length - (k : Int).toNat; omega⟩
    · have hcv := fun (w' : World) (hb : Below wr.heap.size wr w') cap => BR.conv (cap := cap) (hr.below hb)
      have hTr := hT2.below hb
      have hL1 := fun w hT => Lex_key B K hin.out hBu w hT
      have hL2 := fun w hT => Lex_nokey B K s hs hin.out hBu w hT
      have hK1 := fun w hT => Key_made B K hin.out hBu w hT
      have hK2 := fun w hT => Key_not B K hin.out hBu w hT
      rw [hBl] at hcv
      have hzB : (txt B).size = K.length := by rw [txt_size, hBl]
      replace hL1 : Hid _ := hL1
      replace hL2 : Hid _ := hL2
      replace hK1 : Hid _ := hK1
      replace hK2 : Hid _ := hK2
      replace hBu : Hid _ := hBu
      replace hBk : Hid _ := hBk
      go_wp2_with (first
        | (rw [hcv _ (below_on (below_on hb3 hb4) hb5)])
        | (rw [hcv _ (below_on hb3 hb4)])
        | (rw [hcv _ hb3])
        | (rw [hcv _ (Below.refl _ _)])
        | (go_at_call 10; have hq := hL2.out _ (hTr.below hb3); refine Calls.mono hq ?_; clear hq; rintro e w4 ⟨⟨v4, a4, f4, rfl, hor⟩, hb4⟩; have z0 := (hb4.cell (World.block_lt_of_cell? w3 _ x0)).trans x0; have z1 := (hb4.cell (World.block_lt_of_cell? w3 _ x1)).trans x1; have z3 := (hb4.cell (World.block_lt_of_cell? w3 _ x3)).trans x3; clear x0 x1 x3; (rcases hor with hor | ⟨n4, g4, cap4, rfl, y0, rfl⟩))
        | (go_at_call 10; refine Calls.mono (hL1.out _ hTr) ?_; rintro e w3 ⟨⟨g3, cap3, rfl, x0, x1, x3⟩, hb3⟩)
        | (go_at_call 13; have hq := hK2.out _ (hTr.below (below_on (below_on hb3 hb4) hb5)); refine Calls.mono hq ?_; clear hq; rintro e w6 ⟨rfl, hb6⟩)
        | (go_at_call 13; refine Calls.mono (hK1.out _ (hTr.below (below_on hb3 hb4))) ?_; rintro e w5 ⟨rfl, hb5⟩))
      · go_returns
        exact ⟨rfl, below_on (below_on (below_on hbb hb) hb3) hb4⟩
      · go_returns
        exact ⟨by simp, below_on (below_on (below_on (below_on (below_on hbb hb) hb3) hb4) hb5) hb6⟩
      · go_returns
        exact ⟨rfl, below_on (below_on (below_on hbb hb) hb3) hb4⟩
      · go_returns
        exact ⟨by simp, below_on (below_on (below_on (below_on (below_on hbb hb) hb3) hb4) hb5) hb6⟩
end Go.Proofs.YtdnlnghgjjiajaaDoor
