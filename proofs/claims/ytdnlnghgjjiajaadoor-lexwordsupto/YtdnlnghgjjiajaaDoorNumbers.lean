/-
  LexNumbers: its own walk.
-/
import Derived.Test.YtdnlnghgjjiajaaDoorShw
namespace Go.Proofs.YtdnlnghgjjiajaaDoor
open Go.RowKit
set_option linter.unusedSimpArgs false
set_option linter.unusedVariables false

theorem txt_cons (b : UInt8) (l : List UInt8) : (⟨#[b]⟩ : ByteArray) ++ txt l = txt (b :: l) := by
  have e : ((⟨#[b]⟩ : ByteArray) ++ txt l).data.toList = b :: l := by
    rw [Joins.data_append, txt_list]
    rfl
  rw [← txt_of ((⟨#[b]⟩ : ByteArray) ++ txt l), e]
theorem txt_app (l : List UInt8) (a : Array UInt8) : txt l ++ (⟨a⟩ : ByteArray) = txt (l ++ a.toList) := by
  have e : (txt l ++ (⟨a⟩ : ByteArray)).data.toList = l ++ a.toList := by
    rw [Joins.data_append, txt_list]
  rw [← txt_of (txt l ++ ⟨a⟩), e]
set_option maxRecDepth 100000 in
theorem Lex_num (L : List UInt8) (n : Nat) (hne : L ≠ []) (hd : ∀ b ∈ L, digU b) (hn : numFrom 0 L = n) (hm : n ≤ maxI) (hl : L.length + 2 ≤ 4096) (w : World) (hT : Tabs w) :
    Calls Tryd.prog 10 #[.string (txt L ++ ⟨#[32, 97]⟩)] w fun e w' => (∃ g cap, e = .returned (.tuple #[.slice (some ⟨g, 0, none⟩) 2 cap, .int .i64 0, .int .i64 0]) ∧
      w'.cell? ⟨g, 0, none⟩ = some (.int .i64 3) ∧ w'.cell? ⟨g, 2, none⟩ = some (.int .i64 n) ∧ w'.cell? ⟨g, 5, none⟩ = some (.string ⟨#[97]⟩)) ∧ Below w.heap.size w w' := by
  have e1 : (txt L ++ (⟨#[32, 97]⟩ : ByteArray)).data.toList = L ++ [32, 97] := by rw [txt_app, txt_list]
  have hz : (txt L ++ (⟨#[32, 97]⟩ : ByteArray)).size ≤ maxLen := by
    rw [txt_app, txt_size, List.length_append]
    show L.length + 2 ≤ _
    unfold maxLen
    omega
  refine (Lex_at _ hz w hT).mono ?_
  rw [e1, lex_digits L hne hd (by omega) hl]
  rintro e w' ⟨v, rfl, ht, hb⟩
  rcases ht with ⟨_, ht⟩ | ⟨g, cap, rfl, hc⟩
  · cases ht
  · refine ⟨⟨g, cap, rfl, (hc 0 (show 0 < 2 by omega)).1, ?_, (hc 1 (show 1 < 2 by omega)).2.1⟩, hb⟩
    rw [← hn]
    exact (hc 0 (show 0 < 2 by omega)).2.2.1
set_option maxRecDepth 100000 in
set_option maxHeartbeats 4000000 in
theorem Numbers_walk (n q : Int) (h0 : -9223372036854775808 ≤ n) (h1 : n ≤ 9223372036854775807) (q0 : 0 ≤ q) (q1 : q ≤ 255) (w : World) (hT : Tabs w) :
    Calls Tryd.prog 8 #[.int .i64 n, .int .u8 q] w fun e w' => e = .returned (.bool true) ∧ Below w.heap.size w w' := by
  have hH := head_any w hT
  replace hH : Hid _ := hH
  by_cases hn : n < 0
  · go_enter Tryd.func8, Tryd.ntmps8
    go_wp2_with (go_at_call 9; refine Calls.mono hH.out ?_; rintro e w1 ⟨rfl, hb1⟩)
    go_returns
    exact ⟨rfl, hb1⟩
  have hS := fun w hT => Show_int n (by omega) h1 w hT
  obtain ⟨d1, d2, d3⟩ := dec_num n.toNat n.toNat (Nat.le_refl _)
  have hlen : (Lib.decDigits n.toNat).length ≤ 21 := by
    have := Lib.itoa_length_le n (by omega) h1
    unfold Lib.itoa at this
    rw [if_neg hn] at this
    exact this
  generalize Lib.decDigits n.toNat = D at *
  replace hS : Hid _ := hS
  replace d1 : Hid _ := d1
  replace d2 : Hid _ := d2
  replace d3 : Hid _ := d3
  go_enter Tryd.func8, Tryd.ntmps8
  go_wp2_with (first
    | (go_at_call 9; refine Calls.mono hH.out ?_; rintro e w1 ⟨rfl, hb1⟩)
    | (go_at_call 18; refine Calls.mono (hS.out _ (hT.below hb1)) ?_; rintro e w2 ⟨rfl, hb2⟩))
  go_loop [6, 7] (fun v6 v7 => ∃ k : Nat, (k : Int) ≤ q % 9 ∧ v7 = .int .i64 k ∧ v6 = .string (txt (List.replicate k 48 ++ D))) (fun _ v7 => 9 - (intOf v7).toNat)
  case atStart => exact ⟨0, by omega, rfl, by simp⟩
  case round =>
    obtain ⟨k, hk, rfl, rfl⟩ := hrel
    by_cases hlt : (k : Int) < q % 9
    · have hXz : (txt (List.replicate k 48 ++ D)).size ≤ 40 := by
        rw [txt_size, List.length_append, List.length_replicate]
        omega
      have hnx := txt_cons 48 (List.replicate k 48 ++ D)
      rw [← List.cons_append, ← List.replicate_succ] at hnx
      generalize txt (List.replicate k 48 ++ D) = X at *
      replace hnx : Hid _ := hnx
      go_wp2_with fail
      refine ⟨⟨k + 1, by omega, rfl, by rw [hnx.out]⟩, by show 9 - ((k : Int) + 1).toNat < 9 - (k : Int).toNat; omega⟩
    · have hXz : (txt (List.replicate k 48 ++ D)).size ≤ 40 := by
        rw [txt_size, List.length_append, List.length_replicate]
        omega
      have hLx := fun w hT => Lex_num (List.replicate k 48 ++ D) n.toNat (fun e => d3.out (List.append_eq_nil_iff.1 e).2) (fun b hb => by
        rcases List.mem_append.1 hb with hb | hb
        · obtain ⟨_, rfl⟩ := List.mem_replicate.1 hb
          unfold digU
          decide
        · exact d2.out b hb) (by rw [numFrom_append, numFrom_zeros]; exact d1.out) (by unfold maxI; omega) (by rw [List.length_append, List.length_replicate]; omega) w hT
      rw [show ((n.toNat : Nat) : Int) = n by omega] at hLx
      generalize txt (List.replicate k 48 ++ D) = X at *
      replace hLx : Hid _ := hLx
      go_wp2_with (go_at_call 10; refine Calls.mono (hLx.out _ (hT.below (below_on hb1 hb2))) ?_; rintro e w3 ⟨⟨g, cap, rfl, x0, x2, x5⟩, hb3⟩)
      go_returns
      exact ⟨by simp, below_on (below_on hb1 hb2) hb3⟩
end Go.Proofs.YtdnlnghgjjiajaaDoor
