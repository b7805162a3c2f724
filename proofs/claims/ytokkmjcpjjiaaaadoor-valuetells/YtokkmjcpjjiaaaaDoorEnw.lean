/-
  Any thing's bytes: Encode of the program and of the document; and bytes as a text.
-/
import Derived.Test.YtokkmjcpjjiaaaaDoorEn6
import Derived.Test.YtokkmjcpjjiaaaaDoorRrt
import Derived.Laws.BytesArg
namespace Go.Proofs.YtokkmjcpjjiaaaaDoor
open Go.RowKit
set_option linter.unusedSimpArgs false
set_option linter.unusedVariables false

/-- A thing's bytes; 'r': is it a value? -/
def encV (k : Int) (b : Bool) (n : Int) (s : ByteArray) (l : Nat) (z : List Int) (r : Bool) : List Value :=
  if r = false then [] else if k = 0 then [.int .u8 0] else if k = 1 then [.int .u8 1] ++ [.int .u8 (bitI b)] else if k = 3 then ([.int .u8 3] ++ nb s.size 4) ++ Lib.strCells s else if k = 6 then ([.int .u8 6] ++ [.int .u8 (l : Int)]) ++ pb z
  else [.int .u8 k] ++ nb (IntKind.u64.wrap n) 8
theorem nb_ints (u : Int) (wide : Nat) : ∃ zs : List Int, nb u wide = zs.map (Value.int .u8) := ⟨(List.range wide).map fun j => u / 2 ^ (8 * (wide - 1 - j)) % 256, by simp [nb, nbv]⟩
theorem pb_ints : ∀ z : List Int, ∃ zs : List Int, pb z = zs.map (Value.int .u8)
  | [] => ⟨[], rfl⟩
  | x :: z => by
    obtain ⟨a, ha⟩ := nb_ints (IntKind.u64.wrap x) 8
    obtain ⟨b, hb⟩ := pb_ints z
    refine ⟨a ++ b, ?_⟩
    have e : pb (x :: z) = nb (IntKind.u64.wrap x) 8 ++ pb z := by simp [pb]
    rw [e, ha, hb, List.map_append]
theorem encV_ints (k : Int) (b : Bool) (n : Int) (s : ByteArray) (l : Nat) (z : List Int) (r : Bool) : ∃ zs : List Int, encV k b n s l z r = zs.map (Value.int .u8) := by
  obtain ⟨a1, h1⟩ := nb_ints s.size 4
  obtain ⟨a2, h2⟩ := nb_ints (IntKind.u64.wrap n) 8
  obtain ⟨a3, h3⟩ := pb_ints z
  unfold encV
  split
  · exact ⟨[], rfl⟩
  · split
    · exact ⟨[0], rfl⟩
    · split
      · exact ⟨[1, bitI b], rfl⟩
      · split
        · exact ⟨[3] ++ a1 ++ s.data.toList.map (fun x => (x.toNat : Int)), by rw [h1]; simp [Lib.strCells]⟩
        · split
          · exact ⟨[6, (l : Int)] ++ a3, by rw [h3]; simp⟩
          · exact ⟨[k] ++ a2, by rw [h2]; simp⟩
/-- Bytes that are owned, as a text. -/
theorem conv_own {w : World} {base : Nat} {v : Value} {zs : List Int} (h : w.ownsRow base 5 1 v (zs.map (Value.int .u8)).length (zs.map (Value.int .u8))) : (convert 28 9 v).run Tryd.prog w = .ok (.string (strOfNums zs)) w := by
  have h' := h
  obtain ⟨h1, ⟨hv, hn⟩ | ⟨g, cap, cur, hv, e2, e3⟩⟩ := h
  · have hz : zs = [] := by
      cases zs with
      | nil => rfl
      | cons a r => simp at hn
    subst hz
    subst hv
    exact run_convert_bytes_nil (P := Tryd.prog) w 28 5 Tryd.underlying28 Tryd.underlying5 0 0 9 Tryd.underlying9
  · subst hv
    refine run_convert_bytes_arg (P := Tryd.prog) w 28 5 Tryd.underlying28 Tryd.underlying5 g 0 _ cap zs (by simp) (fun i hi => ?_) 9 Tryd.underlying9
    have hi' : i < zs.length := by simpa using hi
    have := h'.cells (g := g) (by simp [Value.ownBlock]) i (.int .u8 (zs.getD i 0)) (by simp [List.getD, List.getElem?_eq_getElem hi', hi'])
    have hadd : (⟨g, 0, none⟩ : Addr).add i = ⟨g, 0 + i, none⟩ := by unfold Addr.add; split <;> simp_all
    rwa [hadd] at this
theorem own_below {w w' : World} {base : Nat} {v : Value} {n : Nat} {xs : List Value} (h : w.ownsRow base 5 1 v n xs) (hb : Below w.heap.size w w') : w'.ownsRow base 5 1 v n xs := by
  obtain ⟨h1, h2 | ⟨g, cap, cur, e1, e2, e3, e4⟩⟩ := h
  · exact ⟨h1, .inl h2⟩
  · exact ⟨h1, .inr ⟨g, cap, cur, e1, e2, (hb.block g (Array.getElem?_eq_some_iff.1 e3).1).trans e3, e4⟩⟩
theorem rgt_says (k : Int) (b : Bool) (n : Int) (s : ByteArray) (l : Nat) (z : List Int) (V : Bool) (h1 : z.length = l) (h : rgtB k b n s l z V = true) : (k = 0 ∨ k = 1 ∨ k = 2 ∨ k = 3 ∨ k = 4 ∨ k = 5 ∨ k = 6) ∧ (k = 3 → s.size ≤ 4096) ∧ (k = 6 → 1 ≤ l ∧ l ≤ 9) := by
  unfold rgtB at h
  rw [Bool.and_eq_true] at h
  have hf := h.2
  unfold fitB at hf
  by_cases a : k = 0 ∨ k = 1 ∨ k = 2
  · exact ⟨by omega, by omega, by omega⟩
  · rw [if_neg a] at hf
    by_cases a3 : k = 3
    · rw [if_pos a3] at hf
      simp at hf
      exact ⟨by omega, fun _ => hf.1, by omega⟩
    · rw [if_neg a3] at hf
      by_cases a4 : k = 4 ∨ k = 5
      · exact ⟨by omega, by omega, by omega⟩
      · rw [if_neg a4] at hf
        by_cases a6 : k = 6
        · rw [if_pos a6] at hf
          simp [trailB] at hf
          exact ⟨by omega, by omega, fun _ => by omega⟩
        · rw [if_neg a6] at hf
          cases hf

set_option maxRecDepth 100000 in
theorem Encode_any (k : Int) (b : Bool) (n : Int) (s : ByteArray) (p : Option Addr) (l c : Nat) (z : List Int) (r : Bool) (h1 : z.length = l) (hk : r = true → ((k = 0 ∨ k = 1 ∨ k = 2 ∨ k = 3 ∨ k = 4 ∨ k = 5 ∨ k = 6) ∧ (k = 3 → s.size ≤ 4096) ∧ (k = 6 → 1 ≤ l ∧ l ≤ 9))) (w : World) (q : PathAt w p z)
    (hR : ∀ w', Below w.heap.size w w' → Calls Tryd.prog 12 #[.agg #[.int .i64 k, .bool b, .int .i64 n, .string s, .slice p l c]] w' fun e w'' => e = .returned (.bool r) ∧ Below w'.heap.size w' w'') :
    Calls Tryd.prog 11 #[.agg #[.int .i64 k, .bool b, .int .i64 n, .string s, .slice p l c]] w fun e w' => ∃ v, e = .returned v ∧ w'.ownsRow w.heap.size 5 1 v (encV k b n s l z r).length (encV k b n s l z r) ∧ Below w.heap.size w w' := by
  cases r
  · have hr := hR _ (below_new w (.cells #[.int .i64 k, .bool b, .int .i64 n, .string s, .slice p l c] 25))
    clear hR
    replace hr : Hid _ := hr
    clear hk q
    rw [show encV k b n s l z false = [] by simp [encV]]
    go_enter Tryd.func11, Tryd.ntmps11
    go_wp2_with (go_at_call 12; refine Calls.mono hr.out ?_; rintro e w1 ⟨rfl, g1⟩)
    go_returns
    exact ⟨_, rfl, World.ownsRow_nil _ _ _ _, below_on (below_new w _) g1⟩
  · obtain ⟨hkk, h3, h6⟩ := hk rfl
    rcases hkk with rfl | rfl | rfl | rfl | rfl | rfl | rfl
    · exact enc_0 b n s p l c w hR
    · exact enc_1 b n s p l c w hR
    · exact enc_2 b n s p l c w hR
    · exact enc_3 b n s p l c (h3 rfl) w hR
    · exact enc_4 b n s p l c w hR
    · exact enc_5 b n s p l c w hR
    · exact enc_6 b n s p l c z h1 (h6 rfl).1 (h6 rfl).2 w q hR

set_option maxRecDepth 100000 in
theorem refEncode_any (k : Int) (b : Bool) (n : Int) (s : ByteArray) (p : Option Addr) (l c : Nat) (z : List Int) (r : Bool) (h1 : z.length = l) (hk : r = true → ((k = 0 ∨ k = 1 ∨ k = 2 ∨ k = 3 ∨ k = 4 ∨ k = 5 ∨ k = 6) ∧ (k = 3 → s.size ≤ 4096) ∧ (k = 6 → 1 ≤ l ∧ l ≤ 9))) (w : World) (q : PathAt w p z)
    (hR : ∀ w', Below w.heap.size w w' → Calls Tryd.prog 13 #[.agg #[.int .i64 k, .bool b, .int .i64 n, .string s, .slice p l c]] w' fun e w'' => e = .returned (.bool r) ∧ Below w'.heap.size w' w'') :
    Calls Tryd.prog 16 #[.agg #[.int .i64 k, .bool b, .int .i64 n, .string s, .slice p l c]] w fun e w' => ∃ v, e = .returned v ∧ w'.ownsRow w.heap.size 5 1 v (encV k b n s l z r).length (encV k b n s l z r) ∧ Below w.heap.size w w' := by
  cases r
  · have hr := hR _ (below_new w (.cells #[.int .i64 k, .bool b, .int .i64 n, .string s, .slice p l c] 25))
    clear hR
    replace hr : Hid _ := hr
    clear hk q
    rw [show encV k b n s l z false = [] by simp [encV]]
    go_enter Tryd.func16, Tryd.ntmps16
    go_wp2_with (go_at_call 13; refine Calls.mono hr.out ?_; rintro e w1 ⟨rfl, g1⟩)
    go_returns
    exact ⟨_, rfl, World.ownsRow_nil _ _ _ _, below_on (below_new w _) g1⟩
  · obtain ⟨hkk, h3, h6⟩ := hk rfl
    rcases hkk with rfl | rfl | rfl | rfl | rfl | rfl | rfl
    · exact renc_0 b n s p l c w hR
    · exact renc_1 b n s p l c w hR
    · exact renc_2 b n s p l c w hR
    · exact renc_3 b n s p l c (h3 rfl) w hR
    · exact renc_4 b n s p l c w hR
    · exact renc_5 b n s p l c w hR
    · exact renc_6 b n s p l c z h1 (h6 rfl).1 (h6 rfl).2 w q hR
end Go.Proofs.YtokkmjcpjjiaaaaDoor
