/-
  Levels: the eighty-one texts of three parts.
  The law of levels: the one call.
  The law of levels: behind the one call, whichever way its result was laid.
-/
import Derived.Test.YtefenbonjepjgaaGreatDoorSyn
import Derived.Test.YtefenbonjepjgaaGreatDoorTbs
namespace Go.Proofs.YtefenbonjepjgaaGreatDoor

def sgL : List (List UInt8) := [[32, 79, 82, 32], [32, 65, 78, 68, 32], [32, 61, 32], [32, 60, 32], [32, 43, 32], [32, 45, 32], [32, 42, 32], [32, 47, 32], [32, 37, 32]]
def opL : List Int := [4, 5, 6, 8, 12, 13, 14, 15, 16]
def lvL : List Int := [1, 2, 4, 4, 5, 5, 6, 6, 6]
def textQ (i j : Nat) : List UInt8 := [112] ++ sgL.getD i [] ++ [113] ++ sgL.getD j [] ++ [114]
def saysL (i j : Nat) : Res Ex :=
  if lvL.getD i 0 = 4 ∧ lvL.getD j 0 = 4 then .bad 6 81
  else if lvL.getD i 0 < lvL.getD j 0 then .ok (.two (opL.getD i 0) (.leaf 2 [112] [] 0 false 0 []) (.two (opL.getD j 0) (.leaf 2 [113] [] 0 false 0 []) (.leaf 2 [114] [] 0 false 0 []))) []
  else .ok (.two (opL.getD j 0) (.two (opL.getD i 0) (.leaf 2 [112] [] 0 false 0 []) (.leaf 2 [113] [] 0 false 0 [])) (.leaf 2 [114] [] 0 false 0 [])) []
set_option maxRecDepth 100000 in
theorem lv0 : ∀ j, j < 9 → parseEL (textQ 0 j) = saysL 0 j
  | 0, _ => by kernel_rfl
  | 1, _ => by kernel_rfl
  | 2, _ => by kernel_rfl
  | 3, _ => by kernel_rfl
  | 4, _ => by kernel_rfl
  | 5, _ => by kernel_rfl
  | 6, _ => by kernel_rfl
  | 7, _ => by kernel_rfl
  | 8, _ => by kernel_rfl
  | n + 9, h => absurd h (by omega)
set_option maxRecDepth 100000 in
theorem lv1 : ∀ j, j < 9 → parseEL (textQ 1 j) = saysL 1 j
  | 0, _ => by kernel_rfl
  | 1, _ => by kernel_rfl
  | 2, _ => by kernel_rfl
  | 3, _ => by kernel_rfl
  | 4, _ => by kernel_rfl
  | 5, _ => by kernel_rfl
  | 6, _ => by kernel_rfl
  | 7, _ => by kernel_rfl
  | 8, _ => by kernel_rfl
  | n + 9, h => absurd h (by omega)
set_option maxRecDepth 100000 in
theorem lv2 : ∀ j, j < 9 → parseEL (textQ 2 j) = saysL 2 j
  | 0, _ => by kernel_rfl
  | 1, _ => by kernel_rfl
  | 2, _ => by kernel_rfl
  | 3, _ => by kernel_rfl
  | 4, _ => by kernel_rfl
  | 5, _ => by kernel_rfl
  | 6, _ => by kernel_rfl
  | 7, _ => by kernel_rfl
  | 8, _ => by kernel_rfl
  | n + 9, h => absurd h (by omega)
set_option maxRecDepth 100000 in
theorem lv3 : ∀ j, j < 9 → parseEL (textQ 3 j) = saysL 3 j
  | 0, _ => by kernel_rfl
  | 1, _ => by kernel_rfl
  | 2, _ => by kernel_rfl
  | 3, _ => by kernel_rfl
  | 4, _ => by kernel_rfl
  | 5, _ => by kernel_rfl
  | 6, _ => by kernel_rfl
  | 7, _ => by kernel_rfl
  | 8, _ => by kernel_rfl
  | n + 9, h => absurd h (by omega)
set_option maxRecDepth 100000 in
theorem lv4 : ∀ j, j < 9 → parseEL (textQ 4 j) = saysL 4 j
  | 0, _ => by kernel_rfl
  | 1, _ => by kernel_rfl
  | 2, _ => by kernel_rfl
  | 3, _ => by kernel_rfl
  | 4, _ => by kernel_rfl
  | 5, _ => by kernel_rfl
  | 6, _ => by kernel_rfl
  | 7, _ => by kernel_rfl
  | 8, _ => by kernel_rfl
  | n + 9, h => absurd h (by omega)
set_option maxRecDepth 100000 in
theorem lv5 : ∀ j, j < 9 → parseEL (textQ 5 j) = saysL 5 j
  | 0, _ => by kernel_rfl
  | 1, _ => by kernel_rfl
  | 2, _ => by kernel_rfl
  | 3, _ => by kernel_rfl
  | 4, _ => by kernel_rfl
  | 5, _ => by kernel_rfl
  | 6, _ => by kernel_rfl
  | 7, _ => by kernel_rfl
  | 8, _ => by kernel_rfl
  | n + 9, h => absurd h (by omega)
set_option maxRecDepth 100000 in
theorem lv6 : ∀ j, j < 9 → parseEL (textQ 6 j) = saysL 6 j
  | 0, _ => by kernel_rfl
  | 1, _ => by kernel_rfl
  | 2, _ => by kernel_rfl
  | 3, _ => by kernel_rfl
  | 4, _ => by kernel_rfl
  | 5, _ => by kernel_rfl
  | 6, _ => by kernel_rfl
  | 7, _ => by kernel_rfl
  | 8, _ => by kernel_rfl
  | n + 9, h => absurd h (by omega)
set_option maxRecDepth 100000 in
theorem lv7 : ∀ j, j < 9 → parseEL (textQ 7 j) = saysL 7 j
  | 0, _ => by kernel_rfl
  | 1, _ => by kernel_rfl
  | 2, _ => by kernel_rfl
  | 3, _ => by kernel_rfl
  | 4, _ => by kernel_rfl
  | 5, _ => by kernel_rfl
  | 6, _ => by kernel_rfl
  | 7, _ => by kernel_rfl
  | 8, _ => by kernel_rfl
  | n + 9, h => absurd h (by omega)
set_option maxRecDepth 100000 in
theorem lv8 : ∀ j, j < 9 → parseEL (textQ 8 j) = saysL 8 j
  | 0, _ => by kernel_rfl
  | 1, _ => by kernel_rfl
  | 2, _ => by kernel_rfl
  | 3, _ => by kernel_rfl
  | 4, _ => by kernel_rfl
  | 5, _ => by kernel_rfl
  | 6, _ => by kernel_rfl
  | 7, _ => by kernel_rfl
  | 8, _ => by kernel_rfl
  | n + 9, h => absurd h (by omega)
theorem levels_say : ∀ i j, i < 9 → j < 9 → parseEL (textQ i j) = saysL i j
  | 0, j, _, h => lv0 j h
  | 1, j, _, h => lv1 j h
  | 2, j, _, h => lv2 j h
  | 3, j, _, h => lv3 j h
  | 4, j, _, h => lv4 j h
  | 5, j, _, h => lv5 j h
  | 6, j, _, h => lv6 j h
  | 7, j, _, h => lv7 j h
  | 8, j, _, h => lv8 j h
  | n + 9, _, h, _ => absurd h (by omega)
end Go.Proofs.YtefenbonjepjgaaGreatDoor
namespace Go.Proofs.YtefenbonjepjgaaGreatDoor
open Go.ChangeShapes Go.WideShapes Go.ChangeAt Go.RowKit
set_option linter.unusedSimpArgs false
set_option linter.unusedVariables false

/-- What the law of levels asks of the tree. -/
def Lev (b i j : Nat) (o : Int) (p : Option Addr) (n : Nat) (y : Int) (w : World) : Prop :=
  (lvL.getD i 0 = 4 ∧ lvL.getD j 0 = 4 → y = 81) ∧ (¬ (lvL.getD i 0 = 4 ∧ lvL.getD j 0 = 4) → y = 0 ∧ n = 2 ∧ ∃ g, b ≤ g ∧ p = some ⟨g, 0, none⟩ ∧
    (lvL.getD i 0 < lvL.getD j 0 → o = opL.getD i 0 ∧ w.cell? ⟨g, 9, none⟩ = some (.int .i64 (opL.getD j 0)) ∧ w.cell? ⟨g, 2, none⟩ = some (.string ⟨#[112]⟩)) ∧
    (lvL.getD j 0 ≤ lvL.getD i 0 → o = opL.getD j 0 ∧ w.cell? ⟨g, 0, none⟩ = some (.int .i64 (opL.getD i 0)) ∧ w.cell? ⟨g, 11, none⟩ = some (.string ⟨#[114]⟩)))
theorem Lev.keep {b b' i j : Nat} {o : Int} {p : Option Addr} {n : Nat} {y : Int} {w w' : World} (h : Lev b i j o p n y w) (hb : b' ≤ b) (hk : ∀ g, b ≤ g → g < w.heap.size → w'.heap[g]? = w.heap[g]?) : Lev b' i j o p n y w' := by
  refine ⟨h.1, fun h4 => ?_⟩
  obtain ⟨e1, e2, g, hg, e3, k1, k2⟩ := h.2 h4
  have cell : ∀ q v, w.cell? ⟨g, q, none⟩ = some v → w'.cell? ⟨g, q, none⟩ = some v := fun q v hc => by
    have := hk g hg (World.block_lt_of_cell? w _ hc)
    rw [← hc]
    simp only [World.cell?, this]
  exact ⟨e1, e2, g, by omega, e3, fun hl => ⟨(k1 hl).1, cell _ _ (k1 hl).2.1, cell _ _ (k1 hl).2.2⟩, fun hl => ⟨(k2 hl).1, cell _ _ (k2 hl).2.1, cell _ _ (k2 hl).2.2⟩⟩
theorem lev_call (i j : Nat) (hi : i < 9) (hj : j < 9) (hz : (((((⟨#[112]⟩ : ByteArray) ++ txt (sgL.getD i [])) ++ (⟨#[113]⟩ : ByteArray)) ++ txt (sgL.getD j [])) ++ (⟨#[114]⟩ : ByteArray)).size ≤ maxLen) (W : World) (hT : Tabs W) :
    Calls Tryz.prog 13 #[.string (((((⟨#[112]⟩ : ByteArray) ++ txt (sgL.getD i [])) ++ (⟨#[113]⟩ : ByteArray)) ++ txt (sgL.getD j [])) ++ (⟨#[114]⟩ : ByteArray))] W fun e w' => Below W.heap.size W w' ∧
      ∃ o p n c s2 s3 k4 b5 k6 s7 a y, e = .returned (.tuple #[.agg #[.int .i64 o, .slice p n c, .string s2, .string s3, .int .i64 k4, .bool b5, .int .i64 k6, .string s7, .slice none 0 0], .int .i64 a, .int .i64 y]) ∧ Lev W.heap.size i j o p n y w' := by
  have ht : (((((⟨#[112]⟩ : ByteArray) ++ txt (sgL.getD i [])) ++ (⟨#[113]⟩ : ByteArray)) ++ txt (sgL.getD j [])) ++ (⟨#[114]⟩ : ByteArray)).data.toList = textQ i j := by
    rw [Joins.data_append, Joins.data_append, Joins.data_append, Joins.data_append, txt_list, txt_list]
    rfl
  refine (parse13 _ hz W hT).mono ?_
  rw [ht, levels_say i j hi hj]
  unfold saysL
  rintro e w' ⟨hb, h⟩
  refine ⟨hb, ?_⟩
  by_cases h4 : lvL.getD i 0 = 4 ∧ lvL.getD j 0 = 4
  · rw [if_pos h4] at h
    exact ⟨_, _, _, _, _, _, _, _, _, _, _, _, h, fun _ => rfl, fun x => absurd h4 x⟩
  · rw [if_neg h4] at h
    by_cases hl : lvL.getD i 0 < lvL.getD j 0
    · rw [if_pos hl] at h
      obtain ⟨v, e1, p, n, c, rfl, g, k1, k2, e2, hg0, r1, r2, _, _⟩ := h
      cases e2
      exact ⟨_, _, _, _, _, _, _, _, _, _, _, _, e1, fun x => absurd x h4, fun _ => ⟨rfl, rfl, g, hg0, rfl, fun _ => ⟨rfl, r2.1, r1.2.2.1⟩, fun x => absurd hl (Int.not_lt.2 x)⟩⟩
    · rw [if_neg hl] at h
      obtain ⟨v, e1, p, n, c, rfl, g, k1, k2, e2, hg0, r1, r2, _, _⟩ := h
      cases e2
      exact ⟨_, _, _, _, _, _, _, _, _, _, _, _, e1, fun x => absurd x h4, fun _ => ⟨rfl, rfl, g, hg0, rfl, fun x => absurd x hl, fun _ => ⟨rfl, r1.1, r2.2.2.1⟩⟩⟩
end Go.Proofs.YtefenbonjepjgaaGreatDoor
namespace Go.Proofs.YtefenbonjepjgaaGreatDoor
open Go.ChangeShapes Go.WideShapes Go.ChangeAt Go.RowKit
set_option linter.unusedSimpArgs false
set_option linter.unusedVariables false

theorem below_drewN (w : World) (n : Nat) : Below w.heap.size w (w.drewN n) := ⟨rfl, rfl, rfl, Nat.le_refl _, fun _ _ => rfl⟩
theorem lv_after {W w2 : World} {i j : Nat} {o a3 y k4 k6 : Int} {p : Option Addr} {m c : Nat} {s5 s6 s7 : ByteArray} {b5 : Bool} (hb2 : Below W.drew.heap.size W.drew w2) (hlv : Lev W.drew.heap.size i j o p m y w2) : ∃ R o_1 p_1 m_1 c_1 a3_1 y_1, Value.pointer (some ⟨w2.heap.size, 0, none⟩) = .pointer (some ⟨R, 0, none⟩) ∧ Value.int .i64 a3 = .int .i64 a3_1 ∧ Value.int .i64 y = .int .i64 y_1 ∧ (w2.alloc (.cells #[.int .i64 o, .slice p m c, .string s5, .string s6, .int .i64 k4, .bool b5, .int .i64 k6, .string s7, .slice none 0 0] 40)).cell? ⟨R, 0, none⟩ = some (.int .i64 o_1) ∧ (w2.alloc (.cells #[.int .i64 o, .slice p m c, .string s5, .string s6, .int .i64 k4, .bool b5, .int .i64 k6, .string s7, .slice none 0 0] 40)).cell? ⟨R, 1, none⟩ = some (.slice p_1 m_1 c_1) ∧ Lev 0 i j o_1 p_1 m_1 y_1 (w2.alloc (.cells #[.int .i64 o, .slice p m c, .string s5, .string s6, .int .i64 k4, .bool b5, .int .i64 k6, .string s7, .slice none 0 0] 40)) ∧ Below W.heap.size W (w2.alloc (.cells #[.int .i64 o, .slice p m c, .string s5, .string s6, .int .i64 k4, .bool b5, .int .i64 k6, .string s7, .slice none 0 0] 40)) := by
  have hB := Blk.new w2 [.int .i64 o, .slice p m c, .string s5, .string s6, .int .i64 k4, .bool b5, .int .i64 k6, .string s7, .slice none 0 0] 40
  have hb : Below W.heap.size W w2 := ⟨hb2.os, hb2.tape, hb2.output, hb2.size, hb2.block⟩
  have hn := below_new w2 (.cells #[.int .i64 o, .slice p m c, .string s5, .string s6, .int .i64 k4, .bool b5, .int .i64 k6, .string s7, .slice none 0 0] 40)
  exact ⟨_, _, _, _, _, _, _, rfl, rfl, rfl, hB.c 0 (by simp), hB.c 1 (by simp), hlv.keep (Nat.zero_le _) (fun g _ hg => hn.block g hg), below_on hb hn⟩
theorem lv_before {W w2 : World} {i j : Nat} {o a3 y k4 k6 : Int} {p : Option Addr} {m c : Nat} {s5 s6 s7 : ByteArray} {b5 : Bool} (hb2 : Below (W.alloc (.cells #[.int .i64 0, .slice none 0 0, .string ⟨#[]⟩, .string ⟨#[]⟩, .int .i64 0, .bool false, .int .i64 0, .string ⟨#[]⟩, .slice none 0 0] 40)).drew.heap.size (W.alloc (.cells #[.int .i64 0, .slice none 0 0, .string ⟨#[]⟩, .string ⟨#[]⟩, .int .i64 0, .bool false, .int .i64 0, .string ⟨#[]⟩, .slice none 0 0] 40)).drew w2) (hlv : Lev (W.alloc (.cells #[.int .i64 0, .slice none 0 0, .string ⟨#[]⟩, .string ⟨#[]⟩, .int .i64 0, .bool false, .int .i64 0, .string ⟨#[]⟩, .slice none 0 0] 40)).drew.heap.size i j o p m y w2) : ∃ R o_1 p_1 m_1 c_1 a3_1 y_1, Value.pointer (some ⟨W.heap.size, 0, none⟩) = .pointer (some ⟨R, 0, none⟩) ∧ Value.int .i64 a3 = .int .i64 a3_1 ∧ Value.int .i64 y = .int .i64 y_1 ∧ ((((((((((w2.setCell ⟨W.heap.size, 0, none⟩ (.int .i64 o)).setCell ⟨W.heap.size, 1, none⟩ (.slice p m c)).setCell ⟨W.heap.size, 2, none⟩ (.string s5)).setCell ⟨W.heap.size, 3, none⟩ (.string s6)).setCell ⟨W.heap.size, 4, none⟩ (.int .i64 k4)).setCell ⟨W.heap.size, 5, none⟩ (.bool b5)).setCell ⟨W.heap.size, 6, none⟩ (.int .i64 k6)).setCell ⟨W.heap.size, 7, none⟩ (.string s7)).setCell ⟨W.heap.size, 8, none⟩ (.slice none 0 0))).cell? ⟨R, 0, none⟩ = some (.int .i64 o_1) ∧ ((((((((((w2.setCell ⟨W.heap.size, 0, none⟩ (.int .i64 o)).setCell ⟨W.heap.size, 1, none⟩ (.slice p m c)).setCell ⟨W.heap.size, 2, none⟩ (.string s5)).setCell ⟨W.heap.size, 3, none⟩ (.string s6)).setCell ⟨W.heap.size, 4, none⟩ (.int .i64 k4)).setCell ⟨W.heap.size, 5, none⟩ (.bool b5)).setCell ⟨W.heap.size, 6, none⟩ (.int .i64 k6)).setCell ⟨W.heap.size, 7, none⟩ (.string s7)).setCell ⟨W.heap.size, 8, none⟩ (.slice none 0 0))).cell? ⟨R, 1, none⟩ = some (.slice p_1 m_1 c_1) ∧ Lev 0 i j o_1 p_1 m_1 y_1 ((((((((((w2.setCell ⟨W.heap.size, 0, none⟩ (.int .i64 o)).setCell ⟨W.heap.size, 1, none⟩ (.slice p m c)).setCell ⟨W.heap.size, 2, none⟩ (.string s5)).setCell ⟨W.heap.size, 3, none⟩ (.string s6)).setCell ⟨W.heap.size, 4, none⟩ (.int .i64 k4)).setCell ⟨W.heap.size, 5, none⟩ (.bool b5)).setCell ⟨W.heap.size, 6, none⟩ (.int .i64 k6)).setCell ⟨W.heap.size, 7, none⟩ (.string s7)).setCell ⟨W.heap.size, 8, none⟩ (.slice none 0 0))) ∧ Below W.heap.size W ((((((((((w2.setCell ⟨W.heap.size, 0, none⟩ (.int .i64 o)).setCell ⟨W.heap.size, 1, none⟩ (.slice p m c)).setCell ⟨W.heap.size, 2, none⟩ (.string s5)).setCell ⟨W.heap.size, 3, none⟩ (.string s6)).setCell ⟨W.heap.size, 4, none⟩ (.int .i64 k4)).setCell ⟨W.heap.size, 5, none⟩ (.bool b5)).setCell ⟨W.heap.size, 6, none⟩ (.int .i64 k6)).setCell ⟨W.heap.size, 7, none⟩ (.string s7)).setCell ⟨W.heap.size, 8, none⟩ (.slice none 0 0))) := by
  have hC := (Blk.drew (Blk.new W [.int .i64 0, .slice none 0 0, .string ⟨#[]⟩, .string ⟨#[]⟩, .int .i64 0, .bool false, .int .i64 0, .string ⟨#[]⟩, .slice none 0 0] 40)).grown hb2
  have hz : (W.alloc (.cells #[.int .i64 0, .slice none 0 0, .string ⟨#[]⟩, .string ⟨#[]⟩, .int .i64 0, .bool false, .int .i64 0, .string ⟨#[]⟩, .slice none 0 0] 40)).drew.heap.size = W.heap.size + 1 := by simp
  have ho : Only (fun k => k = W.heap.size) w2 (((((((((w2.setCell ⟨W.heap.size, 0, none⟩ (.int .i64 o)).setCell ⟨W.heap.size, 1, none⟩ (.slice p m c)).setCell ⟨W.heap.size, 2, none⟩ (.string s5)).setCell ⟨W.heap.size, 3, none⟩ (.string s6)).setCell ⟨W.heap.size, 4, none⟩ (.int .i64 k4)).setCell ⟨W.heap.size, 5, none⟩ (.bool b5)).setCell ⟨W.heap.size, 6, none⟩ (.int .i64 k6)).setCell ⟨W.heap.size, 7, none⟩ (.string s7)).setCell ⟨W.heap.size, 8, none⟩ (.slice none 0 0)) := ((((((((((Only.refl (fun k => k = W.heap.size) w2).set W.heap.size 0 (.int .i64 o) rfl).set W.heap.size 1 (.slice p m c) rfl).set W.heap.size 2 (.string s5) rfl).set W.heap.size 3 (.string s6) rfl).set W.heap.size 4 (.int .i64 k4) rfl).set W.heap.size 5 (.bool b5) rfl).set W.heap.size 6 (.int .i64 k6) rfl).set W.heap.size 7 (.string s7) rfl).set W.heap.size 8 (.slice none 0 0) rfl)
  have hD := (((((((((hC.set 0 (.int .i64 o)).set 1 (.slice p m c)).set 2 (.string s5)).set 3 (.string s6)).set 4 (.int .i64 k4)).set 5 (.bool b5)).set 6 (.int .i64 k6)).set 7 (.string s7)).set 8 (.slice none 0 0))
  have hb : Below W.heap.size W w2 := by
    have h0 : Below W.heap.size W (W.alloc (.cells #[.int .i64 0, .slice none 0 0, .string ⟨#[]⟩, .string ⟨#[]⟩, .int .i64 0, .bool false, .int .i64 0, .string ⟨#[]⟩, .slice none 0 0] 40)).drew := by go_grown
    exact ⟨hb2.os.trans h0.os, hb2.tape.trans h0.tape, hb2.output.trans h0.output, Nat.le_trans h0.size hb2.size, fun k hk => (hb2.block k (by omega)).trans (h0.block k hk)⟩
  exact ⟨_, _, _, _, _, _, _, rfl, rfl, rfl, hD.c 0 (by simp), hD.c 1 (by simp), hlv.keep (Nat.zero_le _) (fun g hg hl => ho.block g hl (by omega)), Below.by_only hb hb.size ho (fun k hk => by omega)⟩
end Go.Proofs.YtefenbonjepjgaaGreatDoor
