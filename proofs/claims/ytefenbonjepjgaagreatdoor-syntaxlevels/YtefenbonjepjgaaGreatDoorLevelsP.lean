/-
  The law of levels: the walk.
  SyntaxLevels returns true for whatever two numbers it is handed; no conditions.
-/
import Derived.Test.YtefenbonjepjgaaGreatDoorTbs
import Derived.Test.YtefenbonjepjgaaGreatDoorLvd
import Derived.BigQuiet
import Derived.Deep.RegionHeld3
namespace Go.Proofs.YtefenbonjepjgaaGreatDoor
open Go.ChangeShapes Go.WideShapes Go.ChangeAt Go.RowKit
set_option linter.unusedSimpArgs false
set_option linter.unusedVariables false

theorem sg_at : ∀ i, i < 9 → ([.string ⟨#[32, 79, 82, 32]⟩, .string ⟨#[32, 65, 78, 68, 32]⟩, .string ⟨#[32, 61, 32]⟩, .string ⟨#[32, 60, 32]⟩, .string ⟨#[32, 43, 32]⟩, .string ⟨#[32, 45, 32]⟩, .string ⟨#[32, 42, 32]⟩, .string ⟨#[32, 47, 32]⟩, .string ⟨#[32, 37, 32]⟩] : List Value)[i]? = some (.string (txt (sgL.getD i [])))
  | 0, _ => rfl
  | 1, _ => rfl
  | 2, _ => rfl
  | 3, _ => rfl
  | 4, _ => rfl
  | 5, _ => rfl
  | 6, _ => rfl
  | 7, _ => rfl
  | 8, _ => rfl
  | n + 9, h => absurd h (by omega)
theorem sg_small : ∀ i, i < 9 → (txt (sgL.getD i [])).size ≤ 5
  | 0, _ => by decide
  | 1, _ => by decide
  | 2, _ => by decide
  | 3, _ => by decide
  | 4, _ => by decide
  | 5, _ => by decide
  | 6, _ => by decide
  | 7, _ => by decide
  | 8, _ => by decide
  | n + 9, h => absurd h (by omega)
theorem op_at : ∀ i, i < 9 → ([.int .i64 4, .int .i64 5, .int .i64 6, .int .i64 8, .int .i64 12, .int .i64 13, .int .i64 14, .int .i64 15, .int .i64 16] : List Value)[i]? = some (.int .i64 (opL.getD i 0))
  | 0, _ => rfl
  | 1, _ => rfl
  | 2, _ => rfl
  | 3, _ => rfl
  | 4, _ => rfl
  | 5, _ => rfl
  | 6, _ => rfl
  | 7, _ => rfl
  | 8, _ => rfl
  | n + 9, h => absurd h (by omega)
theorem lv_at : ∀ i, i < 9 → ([.int .i64 1, .int .i64 2, .int .i64 4, .int .i64 4, .int .i64 5, .int .i64 5, .int .i64 6, .int .i64 6, .int .i64 6] : List Value)[i]? = some (.int .i64 (lvL.getD i 0))
  | 0, _ => rfl
  | 1, _ => rfl
  | 2, _ => rfl
  | 3, _ => rfl
  | 4, _ => rfl
  | 5, _ => rfl
  | 6, _ => rfl
  | 7, _ => rfl
  | 8, _ => rfl
  | n + 9, h => absurd h (by omega)
set_option maxRecDepth 100000 in
set_option maxHeartbeats 40000000 in
theorem Levels_walk (a b : Int) (ha : 0 ≤ a ∧ a < 256) (hb : 0 ≤ b ∧ b < 256) (w : World) (hT : Tabs w) : Calls Tryz.prog 7 #[.int .u8 a, .int .u8 b] w fun e w' => e = .returned (.bool true) ∧ Below w.heap.size w w' := by
  have hH := fun (_ : Unit) => head_any w hT
  replace hH : Hid _ := hH
  go_enter Tryz.func7, Tryz.ntmps7
  go_upto_region 7 with ((have hh := hH.out (); go_at_call 9; (with_reducible refine Calls.mono hh ?_); clear hh hH; rintro e w1 ⟨rfl, hb1⟩))
  have e1 : (w1.alloc (.cells #[.string ⟨#[32, 79, 82, 32]⟩, .string ⟨#[32, 65, 78, 68, 32]⟩, .string ⟨#[32, 61, 32]⟩, .string ⟨#[32, 60, 32]⟩, .string ⟨#[32, 43, 32]⟩, .string ⟨#[32, 45, 32]⟩, .string ⟨#[32, 42, 32]⟩, .string ⟨#[32, 47, 32]⟩, .string ⟨#[32, 37, 32]⟩] 9)).heap.size = w1.heap.size + 1 := by simp
  have e2 : ((w1.alloc (.cells #[.string ⟨#[32, 79, 82, 32]⟩, .string ⟨#[32, 65, 78, 68, 32]⟩, .string ⟨#[32, 61, 32]⟩, .string ⟨#[32, 60, 32]⟩, .string ⟨#[32, 43, 32]⟩, .string ⟨#[32, 45, 32]⟩, .string ⟨#[32, 42, 32]⟩, .string ⟨#[32, 47, 32]⟩, .string ⟨#[32, 37, 32]⟩] 9)).alloc (.cells #[.int .i64 4, .int .i64 5, .int .i64 6, .int .i64 8, .int .i64 12, .int .i64 13, .int .i64 14, .int .i64 15, .int .i64 16] 34)).heap.size = w1.heap.size + 1 + 1 := by simp
  have B1 := ((Blk.new w1 [.string ⟨#[32, 79, 82, 32]⟩, .string ⟨#[32, 65, 78, 68, 32]⟩, .string ⟨#[32, 61, 32]⟩, .string ⟨#[32, 60, 32]⟩, .string ⟨#[32, 43, 32]⟩, .string ⟨#[32, 45, 32]⟩, .string ⟨#[32, 42, 32]⟩, .string ⟨#[32, 47, 32]⟩, .string ⟨#[32, 37, 32]⟩] 9).grown (below_new _ (.cells #[.int .i64 4, .int .i64 5, .int .i64 6, .int .i64 8, .int .i64 12, .int .i64 13, .int .i64 14, .int .i64 15, .int .i64 16] 34))).grown (below_new _ (.cells #[.int .i64 1, .int .i64 2, .int .i64 4, .int .i64 4, .int .i64 5, .int .i64 5, .int .i64 6, .int .i64 6, .int .i64 6] 3))
  have B2 := (Blk.new (w1.alloc (.cells #[.string ⟨#[32, 79, 82, 32]⟩, .string ⟨#[32, 65, 78, 68, 32]⟩, .string ⟨#[32, 61, 32]⟩, .string ⟨#[32, 60, 32]⟩, .string ⟨#[32, 43, 32]⟩, .string ⟨#[32, 45, 32]⟩, .string ⟨#[32, 42, 32]⟩, .string ⟨#[32, 47, 32]⟩, .string ⟨#[32, 37, 32]⟩] 9)) [.int .i64 4, .int .i64 5, .int .i64 6, .int .i64 8, .int .i64 12, .int .i64 13, .int .i64 14, .int .i64 15, .int .i64 16] 34).grown (below_new _ (.cells #[.int .i64 1, .int .i64 2, .int .i64 4, .int .i64 4, .int .i64 5, .int .i64 5, .int .i64 6, .int .i64 6, .int .i64 6] 3))
  have B3 := Blk.new ((w1.alloc (.cells #[.string ⟨#[32, 79, 82, 32]⟩, .string ⟨#[32, 65, 78, 68, 32]⟩, .string ⟨#[32, 61, 32]⟩, .string ⟨#[32, 60, 32]⟩, .string ⟨#[32, 43, 32]⟩, .string ⟨#[32, 45, 32]⟩, .string ⟨#[32, 42, 32]⟩, .string ⟨#[32, 47, 32]⟩, .string ⟨#[32, 37, 32]⟩] 9)).alloc (.cells #[.int .i64 4, .int .i64 5, .int .i64 6, .int .i64 8, .int .i64 12, .int .i64 13, .int .i64 14, .int .i64 15, .int .i64 16] 34)) [.int .i64 1, .int .i64 2, .int .i64 4, .int .i64 4, .int .i64 5, .int .i64 5, .int .i64 6, .int .i64 6, .int .i64 6] 3
  rw [e1] at B2
  rw [e2] at B3
  have hbW : Below w.heap.size w (((w1.alloc (.cells #[.string ⟨#[32, 79, 82, 32]⟩, .string ⟨#[32, 65, 78, 68, 32]⟩, .string ⟨#[32, 61, 32]⟩, .string ⟨#[32, 60, 32]⟩, .string ⟨#[32, 43, 32]⟩, .string ⟨#[32, 45, 32]⟩, .string ⟨#[32, 42, 32]⟩, .string ⟨#[32, 47, 32]⟩, .string ⟨#[32, 37, 32]⟩] 9)).alloc (.cells #[.int .i64 4, .int .i64 5, .int .i64 6, .int .i64 8, .int .i64 12, .int .i64 13, .int .i64 14, .int .i64 15, .int .i64 16] 34)).alloc (.cells #[.int .i64 1, .int .i64 2, .int .i64 4, .int .i64 4, .int .i64 5, .int .i64 5, .int .i64 6, .int .i64 6, .int .i64 6] 3)) := ((hb1.alloc hb1.size _).alloc (by have := hb1.size; simp; omega) _).alloc (by have := hb1.size; simp; omega) _
  have hTW := hT.below hbW
  obtain ⟨i, hi⟩ : ∃ i : Nat, a % 9 = i := ⟨(a % 9).toNat, by omega⟩
  obtain ⟨j, hj⟩ : ∃ j : Nat, b % 9 = j := ⟨(b % 9).toNat, by omega⟩
  have hi9 : i < 9 := by omega
  have hj9 : j < 9 := by omega
  rw [hi, hj]
  have s1 := (B1.c i hi9).trans (sg_at i hi9)
  have s2 := (B1.c j hj9).trans (sg_at j hj9)
  have t1 := (B2.c i hi9).trans (op_at i hi9)
  have t2 := (B2.c j hj9).trans (op_at j hj9)
  have l1 := (B3.c i hi9).trans (lv_at i hi9)
  have l2 := (B3.c j hj9).trans (lv_at j hj9)
  have hz : w1.heap.size + 1 + 1 < (((w1.alloc (.cells #[.string ⟨#[32, 79, 82, 32]⟩, .string ⟨#[32, 65, 78, 68, 32]⟩, .string ⟨#[32, 61, 32]⟩, .string ⟨#[32, 60, 32]⟩, .string ⟨#[32, 43, 32]⟩, .string ⟨#[32, 45, 32]⟩, .string ⟨#[32, 42, 32]⟩, .string ⟨#[32, 47, 32]⟩, .string ⟨#[32, 37, 32]⟩] 9)).alloc (.cells #[.int .i64 4, .int .i64 5, .int .i64 6, .int .i64 8, .int .i64 12, .int .i64 13, .int .i64 14, .int .i64 15, .int .i64 16] 34)).alloc (.cells #[.int .i64 1, .int .i64 2, .int .i64 4, .int .i64 4, .int .i64 5, .int .i64 5, .int .i64 6, .int .i64 6, .int .i64 6] 3)).heap.size := by simp
  clear B1 B2 B3 e1 e2
  generalize ((w1.alloc (.cells #[.string ⟨#[32, 79, 82, 32]⟩, .string ⟨#[32, 65, 78, 68, 32]⟩, .string ⟨#[32, 61, 32]⟩, .string ⟨#[32, 60, 32]⟩, .string ⟨#[32, 43, 32]⟩, .string ⟨#[32, 45, 32]⟩, .string ⟨#[32, 42, 32]⟩, .string ⟨#[32, 47, 32]⟩, .string ⟨#[32, 37, 32]⟩] 9)).alloc (.cells #[.int .i64 4, .int .i64 5, .int .i64 6, .int .i64 8, .int .i64 12, .int .i64 13, .int .i64 14, .int .i64 15, .int .i64 16] 34)).alloc (.cells #[.int .i64 1, .int .i64 2, .int .i64 4, .int .i64 4, .int .i64 5, .int .i64 5, .int .i64 6, .int .i64 6, .int .i64 6] 3) = W at *
  generalize w1.heap.size = n at *
  clear hb1
  replace hTW : Hid _ := hTW
  have d1 : decide ((i : Int) < 0) = false := by simp
  have d2 : decide ((j : Int) < 0) = false := by simp
  have hI : (txt (sgL.getD i [])).size ≤ 5 := sg_small i hi9
  have hJ : (txt (sgL.getD j [])).size ≤ 5 := sg_small j hj9
  have x1 : (((⟨#[112]⟩ : ByteArray) ++ txt (sgL.getD i [])).size : Int) ≤ 8388608 := by rw [ByteArray.size_append]; show ((1 + _ : Nat) : Int) ≤ _; omega
  have x2 : ((((⟨#[112]⟩ : ByteArray) ++ txt (sgL.getD i [])) ++ (⟨#[113]⟩ : ByteArray)).size : Int) ≤ 8388608 := by rw [ByteArray.size_append, ByteArray.size_append]; show ((1 + _ + 1 : Nat) : Int) ≤ _; omega
  have x3 : (((((⟨#[112]⟩ : ByteArray) ++ txt (sgL.getD i [])) ++ (⟨#[113]⟩ : ByteArray)) ++ txt (sgL.getD j [])).size : Int) ≤ 8388608 := by rw [ByteArray.size_append, ByteArray.size_append, ByteArray.size_append]; show ((1 + _ + 1 + _ : Nat) : Int) ≤ _; omega
  have x4 : ((((((⟨#[112]⟩ : ByteArray) ++ txt (sgL.getD i [])) ++ (⟨#[113]⟩ : ByteArray)) ++ txt (sgL.getD j [])) ++ (⟨#[114]⟩ : ByteArray)).size) ≤ maxLen := by rw [ByteArray.size_append, ByteArray.size_append, ByteArray.size_append, ByteArray.size_append]; show (1 + _ + 1 + _ + 1 : Nat) ≤ _; unfold maxLen; omega
  have x5 : ((txt (sgL.getD i [])).size : Int) ≤ 8388608 := by omega
  have x6 : ((txt (sgL.getD j [])).size : Int) ≤ 8388608 := by omega
  have x7 : ((⟨#[112]⟩ : ByteArray).size : Int) ≤ 8388608 := by decide
  have x8 : ((⟨#[113]⟩ : ByteArray).size : Int) ≤ 8388608 := by decide
  have x9 : ((⟨#[114]⟩ : ByteArray).size : Int) ≤ 8388608 := by decide
  have hP := fun (W' : World) (h : Tabs W') => lev_call i j hi9 hj9 x4 W' h
  replace hP : Hid _ := hP
  clear x4
  clear x1 x2 x3 x5 x6 x7 x8 x9
  have y1 : (⟨#[112]⟩ : ByteArray).size + (txt (sgL.getD i [])).size ≤ 9223372036854775807 := by show 1 + _ ≤ _; omega
  have y2 : ((⟨#[112]⟩ : ByteArray) ++ (txt (sgL.getD i []))).size + (⟨#[113]⟩ : ByteArray).size ≤ 9223372036854775807 := by rw [ByteArray.size_append]; show 1 + _ + 1 ≤ _; omega
  have y3 : (((⟨#[112]⟩ : ByteArray) ++ (txt (sgL.getD i []))) ++ (⟨#[113]⟩ : ByteArray)).size + (txt (sgL.getD j [])).size ≤ 9223372036854775807 := by rw [ByteArray.size_append, ByteArray.size_append]; show 1 + _ + 1 + _ ≤ _; omega
  have y4 : ((((⟨#[112]⟩ : ByteArray) ++ (txt (sgL.getD i []))) ++ (⟨#[113]⟩ : ByteArray)) ++ (txt (sgL.getD j []))).size + (⟨#[114]⟩ : ByteArray).size ≤ 9223372036854775807 := by rw [ByteArray.size_append, ByteArray.size_append, ByteArray.size_append]; show 1 + _ + 1 + _ + 1 ≤ _; omega
  have u1 : ∀ W, (Op.stringOp .add (⟨#[112]⟩ : ByteArray) ((txt (sgL.getD i [])) : ByteArray)).run Tryz.prog W = .ok (.string ((⟨#[112]⟩ : ByteArray) ++ txt (sgL.getD i []))) W := fun W => by apply run_string_add_sum; exact y1
  have u2 : ∀ W, (Op.stringOp .add (((⟨#[112]⟩ : ByteArray) ++ txt (sgL.getD i [])) : ByteArray) (⟨#[113]⟩ : ByteArray)).run Tryz.prog W = .ok (.string (((⟨#[112]⟩ : ByteArray) ++ txt (sgL.getD i [])) ++ ⟨#[113]⟩)) W := fun W => by apply run_string_add_sum; exact y2
  have u3 : ∀ W, (Op.stringOp .add ((((⟨#[112]⟩ : ByteArray) ++ txt (sgL.getD i [])) ++ ⟨#[113]⟩) : ByteArray) ((txt (sgL.getD j [])) : ByteArray)).run Tryz.prog W = .ok (.string ((((⟨#[112]⟩ : ByteArray) ++ txt (sgL.getD i [])) ++ ⟨#[113]⟩) ++ txt (sgL.getD j []))) W := fun W => by apply run_string_add_sum; exact y3
  have u4 : ∀ W, (Op.stringOp .add (((((⟨#[112]⟩ : ByteArray) ++ txt (sgL.getD i [])) ++ ⟨#[113]⟩) ++ txt (sgL.getD j [])) : ByteArray) (⟨#[114]⟩ : ByteArray)).run Tryz.prog W = .ok (.string (((((⟨#[112]⟩ : ByteArray) ++ txt (sgL.getD i [])) ++ ⟨#[113]⟩) ++ txt (sgL.getD j [])) ++ ⟨#[114]⟩)) W := fun W => by apply run_string_add_sum; exact y4
  clear y1 y2 y3 y4 hI hJ
  generalize txt (sgL.getD i []) = SI at *
  generalize txt (sgL.getD j []) = SJ at *
  have bz := below_new W (.cells #[.int .i64 0, .slice none 0 0, .string ⟨#[]⟩, .string ⟨#[]⟩, .int .i64 0, .bool false, .int .i64 0, .string ⟨#[]⟩, .slice none 0 0] 40)
  have hn : n < W.heap.size := by omega
  have hn1 : n + 1 < W.heap.size := by omega
  have td1 : Tabs W.drew := hTW.out.below (by go_grown)
  have td2 : Tabs (W.alloc (.cells #[.int .i64 0, .slice none 0 0, .string ⟨#[]⟩, .string ⟨#[]⟩, .int .i64 0, .bool false, .int .i64 0, .string ⟨#[]⟩, .slice none 0 0] 40)).drew := hTW.out.below (by go_grown)
  replace td1 : Hid _ := td1
  replace td2 : Hid _ := td2
  clear bz
  have ii : (i : Int) < 9 := by omega
  have jj : (j : Int) < 9 := by omega
  go_cut [11, 12, 13] (fun v11 v12 v13 wx => ∃ R o p m c a3 y, v11 = .pointer (some ⟨R, 0, none⟩) ∧ v12 = .int .i64 a3 ∧ v13 = .int .i64 y ∧ wx.cell? ⟨R, 0, none⟩ = some (.int .i64 o) ∧ wx.cell? ⟨R, 1, none⟩ = some (.slice p m c) ∧ Lev 0 i j o p m y wx ∧ Below W.heap.size W wx)
  case first =>
    have s1d : W.drew.cell? ⟨n, i, none⟩ = some (.string SI) := s1
    have s1b : (W.alloc (.cells #[.int .i64 0, .slice none 0 0, .string ⟨#[]⟩, .string ⟨#[]⟩, .int .i64 0, .bool false, .int .i64 0, .string ⟨#[]⟩, .slice none 0 0] 40)).cell? ⟨n, i, none⟩ = some (.string SI) := ((below_new W (.cells #[.int .i64 0, .slice none 0 0, .string ⟨#[]⟩, .string ⟨#[]⟩, .int .i64 0, .bool false, .int .i64 0, .string ⟨#[]⟩, .slice none 0 0] 40)).cell (p := ⟨n, i, none⟩) hn).trans s1
    have s1a : (W.alloc (.cells #[.int .i64 0, .slice none 0 0, .string ⟨#[]⟩, .string ⟨#[]⟩, .int .i64 0, .bool false, .int .i64 0, .string ⟨#[]⟩, .slice none 0 0] 40)).drew.cell? ⟨n, i, none⟩ = some (.string SI) := s1b
    have s2d : W.drew.cell? ⟨n, j, none⟩ = some (.string SJ) := s2
    have s2b : (W.alloc (.cells #[.int .i64 0, .slice none 0 0, .string ⟨#[]⟩, .string ⟨#[]⟩, .int .i64 0, .bool false, .int .i64 0, .string ⟨#[]⟩, .slice none 0 0] 40)).cell? ⟨n, j, none⟩ = some (.string SJ) := ((below_new W (.cells #[.int .i64 0, .slice none 0 0, .string ⟨#[]⟩, .string ⟨#[]⟩, .int .i64 0, .bool false, .int .i64 0, .string ⟨#[]⟩, .slice none 0 0] 40)).cell (p := ⟨n, j, none⟩) hn).trans s2
    have s2a : (W.alloc (.cells #[.int .i64 0, .slice none 0 0, .string ⟨#[]⟩, .string ⟨#[]⟩, .int .i64 0, .bool false, .int .i64 0, .string ⟨#[]⟩, .slice none 0 0] 40)).drew.cell? ⟨n, j, none⟩ = some (.string SJ) := s2b
    have hnW : ¬ n = W.heap.size := by omega
    have hnW2 : ¬ W.heap.size = n := by omega
    go_region_held3 (fun w' => w'.cell? ⟨n, i, none⟩ = some (.string SI) ∧ w'.cell? ⟨n, j, none⟩ = some (.string SJ))
      (first | with_reducible exact ⟨s1d, s2d⟩ | with_reducible exact ⟨s1a, s2a⟩ | with_reducible exact ⟨s1b, s2b⟩ | with_reducible exact ⟨z1, z2⟩ | with_reducible exact ⟨y1, y2⟩ | go_keep)
      (first
      | (have hh := hP.out _ td1.out; go_at_call 13; (with_reducible refine Calls.mono hh ?_); clear hh; rintro e w2 ⟨hb2, o, p, m, c, s5, s6, k4, b5, k6, s7, a3, y, rfl, hlv⟩; replace hlv : Hid _ := hlv; have z1 : w2.cell? ⟨n, i, none⟩ = some (.string SI) := (hb2.cell (p := ⟨n, i, none⟩) hn).trans s1; have z2 : w2.cell? ⟨n, j, none⟩ = some (.string SJ) := (hb2.cell (p := ⟨n, j, none⟩) hn).trans s2; have y1 : (w2.alloc (.cells #[.int .i64 0, .slice none 0 0, .string ⟨#[]⟩, .string ⟨#[]⟩, .int .i64 0, .bool false, .int .i64 0, .string ⟨#[]⟩, .slice none 0 0] 40)).cell? ⟨n, i, none⟩ = some (.string SI) := ((below_new w2 (.cells #[.int .i64 0, .slice none 0 0, .string ⟨#[]⟩, .string ⟨#[]⟩, .int .i64 0, .bool false, .int .i64 0, .string ⟨#[]⟩, .slice none 0 0] 40)).cell (p := ⟨n, i, none⟩) (World.block_lt_of_cell? w2 _ z1)).trans z1; have y2 : (w2.alloc (.cells #[.int .i64 0, .slice none 0 0, .string ⟨#[]⟩, .string ⟨#[]⟩, .int .i64 0, .bool false, .int .i64 0, .string ⟨#[]⟩, .slice none 0 0] 40)).cell? ⟨n, j, none⟩ = some (.string SJ) := ((below_new w2 (.cells #[.int .i64 0, .slice none 0 0, .string ⟨#[]⟩, .string ⟨#[]⟩, .int .i64 0, .bool false, .int .i64 0, .string ⟨#[]⟩, .slice none 0 0] 40)).cell (p := ⟨n, j, none⟩) (World.block_lt_of_cell? w2 _ z2)).trans z2; have hn2 := World.block_lt_of_cell? w2 _ z1; have hne2 : ¬ n = w2.heap.size := Nat.ne_of_lt hn2; have hne3 : ¬ w2.heap.size = n := fun h => hne2 h.symm)
      | (have hh := hP.out _ td2.out; go_at_call 13; (with_reducible refine Calls.mono hh ?_); clear hh; rintro e w2 ⟨hb2, o, p, m, c, s5, s6, k4, b5, k6, s7, a3, y, rfl, hlv⟩; replace hlv : Hid _ := hlv; have C := (Blk.drew (Blk.new W [.int .i64 0, .slice none 0 0, .string ⟨#[]⟩, .string ⟨#[]⟩, .int .i64 0, .bool false, .int .i64 0, .string ⟨#[]⟩, .slice none 0 0] 40)).grown hb2; have q0 : w2.cell? ⟨W.heap.size, 0, none⟩ = some (.int .i64 0) := (C.c 0 (by decide)); have q1 : w2.cell? ⟨W.heap.size, 1, none⟩ = some (.slice none 0 0) := (C.c 1 (by decide)); have q2 : w2.cell? ⟨W.heap.size, 2, none⟩ = some (.string ⟨#[]⟩) := (C.c 2 (by decide)); have q3 : w2.cell? ⟨W.heap.size, 3, none⟩ = some (.string ⟨#[]⟩) := (C.c 3 (by decide)); have q4 : w2.cell? ⟨W.heap.size, 4, none⟩ = some (.int .i64 0) := (C.c 4 (by decide)); have q5 : w2.cell? ⟨W.heap.size, 5, none⟩ = some (.bool false) := (C.c 5 (by decide)); have q6 : w2.cell? ⟨W.heap.size, 6, none⟩ = some (.int .i64 0) := (C.c 6 (by decide)); have q7 : w2.cell? ⟨W.heap.size, 7, none⟩ = some (.string ⟨#[]⟩) := (C.c 7 (by decide)); have q8 : w2.cell? ⟨W.heap.size, 8, none⟩ = some (.slice none 0 0) := (C.c 8 (by decide)); have fr := C.fr; have z1 : w2.cell? ⟨n, i, none⟩ = some (.string SI) := (hb2.cell (p := ⟨n, i, none⟩) (Nat.lt_of_lt_of_le hn (below_new W (.cells #[.int .i64 0, .slice none 0 0, .string ⟨#[]⟩, .string ⟨#[]⟩, .int .i64 0, .bool false, .int .i64 0, .string ⟨#[]⟩, .slice none 0 0] 40)).size)).trans (((below_new W (.cells #[.int .i64 0, .slice none 0 0, .string ⟨#[]⟩, .string ⟨#[]⟩, .int .i64 0, .bool false, .int .i64 0, .string ⟨#[]⟩, .slice none 0 0] 40)).cell (p := ⟨n, i, none⟩) hn).trans s1); have z2 : w2.cell? ⟨n, j, none⟩ = some (.string SJ) := (hb2.cell (p := ⟨n, j, none⟩) (Nat.lt_of_lt_of_le hn (below_new W (.cells #[.int .i64 0, .slice none 0 0, .string ⟨#[]⟩, .string ⟨#[]⟩, .int .i64 0, .bool false, .int .i64 0, .string ⟨#[]⟩, .slice none 0 0] 40)).size)).trans (((below_new W (.cells #[.int .i64 0, .slice none 0 0, .string ⟨#[]⟩, .string ⟨#[]⟩, .int .i64 0, .bool false, .int .i64 0, .string ⟨#[]⟩, .slice none 0 0] 40)).cell (p := ⟨n, j, none⟩) hn).trans s2); have y1 : (w2.alloc (.cells #[.int .i64 0, .slice none 0 0, .string ⟨#[]⟩, .string ⟨#[]⟩, .int .i64 0, .bool false, .int .i64 0, .string ⟨#[]⟩, .slice none 0 0] 40)).cell? ⟨n, i, none⟩ = some (.string SI) := ((below_new w2 (.cells #[.int .i64 0, .slice none 0 0, .string ⟨#[]⟩, .string ⟨#[]⟩, .int .i64 0, .bool false, .int .i64 0, .string ⟨#[]⟩, .slice none 0 0] 40)).cell (p := ⟨n, i, none⟩) (World.block_lt_of_cell? w2 _ z1)).trans z1; have y2 : (w2.alloc (.cells #[.int .i64 0, .slice none 0 0, .string ⟨#[]⟩, .string ⟨#[]⟩, .int .i64 0, .bool false, .int .i64 0, .string ⟨#[]⟩, .slice none 0 0] 40)).cell? ⟨n, j, none⟩ = some (.string SJ) := ((below_new w2 (.cells #[.int .i64 0, .slice none 0 0, .string ⟨#[]⟩, .string ⟨#[]⟩, .int .i64 0, .bool false, .int .i64 0, .string ⟨#[]⟩, .slice none 0 0] 40)).cell (p := ⟨n, j, none⟩) (World.block_lt_of_cell? w2 _ z2)).trans z2; have hn2 := World.block_lt_of_cell? w2 _ z1; have hne2 : ¬ n = w2.heap.size := Nat.ne_of_lt hn2; have hne3 : ¬ w2.heap.size = n := fun h => hne2 h.symm))
    all_goals go_wp2_with fail
    all_goals go_meet
    all_goals first
      | (have hq : Below W.drew.heap.size W.drew w2 := by with_reducible exact hb2
         exact lv_after hq hlv.out)
      | (have hq : Below (W.alloc (.cells #[.int .i64 0, .slice none 0 0, .string ⟨#[]⟩, .string ⟨#[]⟩, .int .i64 0, .bool false, .int .i64 0, .string ⟨#[]⟩, .slice none 0 0] 40)).drew.heap.size (W.alloc (.cells #[.int .i64 0, .slice none 0 0, .string ⟨#[]⟩, .string ⟨#[]⟩, .int .i64 0, .bool false, .int .i64 0, .string ⟨#[]⟩, .slice none 0 0] 40)).drew w2 := by with_reducible exact hb2
         exact lv_before hq hlv.out)
      | (trace_state; sorry)
  case rest =>
    obtain ⟨R, o, p, m, c, a3, y, rfl, rfl, rfl, r0, r1, hlv, hbx⟩ := hcut
    have t1' := (hbx.cell (p := ⟨n + 1, i, none⟩) hn1).trans t1
    have t2' := (hbx.cell (p := ⟨n + 1, j, none⟩) hn1).trans t2
    have l1' := (hbx.cell (p := ⟨n + 1 + 1, i, none⟩) hz).trans l1
    have l2' := (hbx.cell (p := ⟨n + 1 + 1, j, none⟩) hz).trans l2
    have hbw := below_on hbW hbx
    obtain ⟨h81, hel⟩ := hlv
    clear s1 s2 t1 t2 l1 l2 hbx hTW hP u1 u2 u3 u4 td1 td2 hn hn1 hz
    generalize lvL.getD i 0 = LI at *
    generalize lvL.getD j 0 = LJ at *
    generalize opL.getD i 0 = OI at *
    generalize opL.getD j 0 = OJ at *
    by_cases h4 : LI = 4 ∧ LJ = 4
    · obtain ⟨rfl, rfl⟩ := h4
      obtain rfl := h81 ⟨rfl, rfl⟩
      clear hel h81
      go_wp2_with fail
      go_returns
      exact ⟨by simp, hbw⟩
    · obtain ⟨rfl, rfl, g, _, rfl, k1, k2⟩ := hel h4
      clear hel h81
      have hcase : ¬ LI = 4 ∨ LI = 4 ∧ ¬ LJ = 4 := by
        by_cases h : LI = 4
        · exact .inr ⟨h, fun h' => h4 ⟨h, h'⟩⟩
        · exact .inl h
      rcases hcase with h5 | ⟨rfl, h5⟩
      · have h5b : (LI == 4) = false := by simp [h5]
        have h5d : decide (LI = 4) = false := by simp [h5]
        by_cases hl : LI < LJ
        · have hlb : decide (LJ > LI) = true := by simp; omega
          have hlb2 : decide (LI < LJ) = true := by simp; omega
          obtain ⟨rfl, c9, c2⟩ := k1 hl
          clear k1 k2
          go_upto_region 12 with fail
          go_quiet (fail)
          go_wp2_with fail
          go_quiet (fail)
          go_wp2_with fail
          go_returns
          exact ⟨by simp, below_on (below_on hbw (below_drewN _ _)) (below_drewN _ _)⟩
        · have hlb : decide (LJ > LI) = false := by simp; omega
          have hlb2 : decide (LI < LJ) = false := by simp; omega
          obtain ⟨rfl, c9, c2⟩ := k2 (Int.not_lt.1 hl)
          clear k1 k2
          go_upto_region 12 with fail
          go_quiet (fail)
          go_wp2_with fail
          go_quiet (fail)
          go_wp2_with fail
          go_returns
          exact ⟨by simp, below_on (below_on hbw (below_drewN _ _)) (below_drewN _ _)⟩
      · have h5b : (LJ == 4) = false := by simp [h5]
        have h5d : decide (LJ = 4) = false := by simp [h5]
        by_cases hl : 4 < LJ
        · have hlb : decide (LJ > 4) = true := by simp; omega
          have hlb2 : decide (4 < LJ) = true := by simp; omega
          obtain ⟨rfl, c9, c2⟩ := k1 hl
          clear k1 k2
          go_upto_region 12 with fail
          go_quiet (fail)
          go_wp2_with fail
          go_quiet (fail)
          go_wp2_with fail
          go_returns
          exact ⟨by simp, below_on (below_on hbw (below_drewN _ _)) (below_drewN _ _)⟩
        · have hlb : decide (LJ > 4) = false := by simp; omega
          have hlb2 : decide (4 < LJ) = false := by simp; omega
          obtain ⟨rfl, c9, c2⟩ := k2 (Int.not_lt.1 hl)
          clear k1 k2
          go_upto_region 12 with fail
          go_quiet (fail)
          go_wp2_with fail
          go_quiet (fail)
          go_wp2_with fail
          go_returns
          exact ⟨by simp, below_on (below_on hbw (below_drewN _ _)) (below_drewN _ _)⟩
end Go.Proofs.YtefenbonjepjgaaGreatDoor
namespace Go.Proofs.YtefenbonjepjgaaGreatDoor
open Go.ChangeShapes Go.WideShapes Go.ChangeAt Go.RowKit
set_option linter.unusedVariables false
set_option linter.unusedSimpArgs false

set_option maxRecDepth 100000 in
theorem syntaxLevels_contract (H : Type) (enc : TypeId × Value → H) (W : World) (base : Nat) (args : Array Value) (ds gs : List (DataW H)) (before : List MemPlace)
    (hval0 : ∀ (j : Nat) t v, Tryz.f7.params[j]? = some t → args[j]? = some v → Value.okWide Tryz.prog W .any base t v)
    (hW : DataW.Whole enc Tryz.prog Tryz.f7.params.toList Rows.syntaxLevelsSpec.vars false W args.toList ds gs before) (hL : laidMetH Tryz.prog Rows.syntaxLevelsRow.laid W) :
    Calls Tryz.prog 7 args W fun e W' => ∃ v, e = .returned v ∧ Rows.syntaxLevelsSpec.post enc Tryz.prog Tryz.f7 false true false false W args v W' := by
  have hval : ∀ (j : Nat) t v, Tryz.f7.params[j]? = some t → args[j]? = some v → Value.okWide Tryz.prog W .any base t v := hval0
  have hW' := hW
  obtain ⟨p, q, hA0, hV, rfl, hfz, hnd⟩ := hW
  have hA : DataW.TrodAll enc Tryz.prog W 0 (fun _ => true) true Tryz.f7.params.toList args.toList ds p := hA0
  rw [Tryz.params7] at hA hval
  obtain ⟨v0, vs0, d0, ds0, p0, q0, hargs, rfl, rfl, h0, r0⟩ := trodAll_cons hA
  obtain ⟨v1, vs1, d1, ds1, p1, q1, rfl, rfl, rfl, h1, r1⟩ := trodAll_cons r0
  obtain ⟨rfl, rfl, rfl⟩ := trodAll_nil r1
  obtain rfl : args = #[v0, v1] := by cases args; simp_all
  obtain ⟨rfl, rfl⟩ := trodVars_none hV
  have m0 := h0
  have lt0 : ∀ x ∈ p0, x.block < W.heap.size := by obtain ⟨m, hm⟩ := m0; exact DataW.trod_lt m _ _ _ hm
  have m1 := h1
  have lt1 : ∀ x ∈ p1, x.block < W.heap.size := by obtain ⟨m, hm⟩ := m1; exact DataW.trod_lt m _ _ _ hm
  obtain ⟨a, rfl, rfl, rfl, ha⟩ := open_int Tryz.underlying5 (hval 0 5 v0 rfl rfl) h0
  replace ha : 0 ≤ a ∧ a < 256 := by
    simp [Lit.wf, IntKind.min, IntKind.max, IntKind.signed, IntKind.bits] at ha
    omega
  obtain ⟨b, rfl, rfl, rfl, hb⟩ := open_int Tryz.underlying5 (hval 1 5 v1 rfl rfl) h1
  replace hb : 0 ≤ b ∧ b < 256 := by
    simp [Lit.wf, IntKind.min, IntKind.max, IntKind.signed, IntKind.bits] at hb
    omega
  clear hA0 hval0 hval
  refine (Levels_walk a b ha hb W (tabs_of hL)).mono fun e W' ⟨he, bel⟩ => ?_
  subst he
  exact ⟨_, rfl, _, _, _, [], _, [], hW', trodAll_mk1 (shut_bool Tryz.underlying4 _), (trodAll_cons_mk (Below.trod laidOut (by kernel_rfl) (of_decide_eq_true (by kernel_rfl)) m0 bel lt0) (trodAll_cons_mk (Below.trod laidOut (by kernel_rfl) (of_decide_eq_true (by kernel_rfl)) m1 bel lt1) trodAll_mk0)), rfl, bel.frame _, fun h => by cases h⟩

theorem syntaxLevels_reads (os : Os) {H : Type} (enc : TypeId × Value → H) : ∃ places, DataW.whole enc Tryz.prog ((laidWorld os).forCall (fun _ _ => 0) ⟨#[], #[.int .u8 0, .int .u8 0], []⟩).memory Tryz.f7.params.toList Rows.syntaxLevelsSpec.vars false #[.int .u8 0, .int .u8 0].toList 8 = some ([.lit (.int .u8 0), .lit (.int .u8 0)], [], places) :=
  ⟨[], by kernel_rfl⟩

set_option maxRecDepth 100000 in
theorem syntaxLevels_lifted (os : Os) (started : os.Started) (H : Type) (enc : TypeId × Value → H) (F : Stop.Interp) :
    ReturnsInHanded {} Tryz.checked os 7 .any ((OpenSpec.ofChange Rows.syntaxLevelsSpec).preRow enc Tryz.prog Tryz.f7 Rows.syntaxLevelsRow.domain false Rows.syntaxLevelsRow.laid) (((OpenSpec.ofChange Rows.syntaxLevelsSpec).at F).post enc Tryz.prog Tryz.f7 false true false false) := by
  obtain ⟨places, hx⟩ := syntaxLevels_reads os enc
  refine returnsInHanded_of_row (C := Tryz.checked) (s := (OpenSpec.ofChange Rows.syntaxLevelsSpec)) own started (by kernel_rfl) Tryz.func7
    (witness_row_shaped (enc := enc) (C := Tryz.checked) false (laidWorld os) #[.int .u8 0, .int .u8 0] (laid_os os) (World.shaped_of_ZipB (by kernel_rfl) (by kernel_rfl)) (by kernel_rfl)
      (OpenSpec.preRow_of_cond 8 hx (by kernel_rfl) (fun k hk => by cases hk) (by kernel_rfl) (laid_met os #[.int .u8 0, .int .u8 0]))) ?_
  intro W base args ds gs before hval hW _ hcond hsz hL _ _
  exact syntaxLevels_contract H enc W base args ds gs before hval hW hL

theorem syntaxLevels_said : Rows.SyntaxLevelsSaid :=
  OpenClaim.holds_of_cond 7 Tryz.f7 rfl rfl rfl rfl rfl rfl rfl ⟨rfl, rfl, rfl, rfl, rfl⟩ rfl rfl rfl rfl rfl (by kernel_rfl) Tryz.func7 (by kernel_rfl)
    (of_decide_eq_true (by kernel_rfl)) (by unfold Func.isWrapper; first | (rw [if_pos (by decide +kernel)]; kernel_rfl) | (rw [if_neg (by decide +kernel)]; exact ⟨rfl, rfl⟩))
    (fun os started H enc _ F => by rw [OpenClaim.pre_eq_preRow]; exact syntaxLevels_lifted os started H enc F)

theorem syntaxLevels_plain (f : FuncId) (fn : Func) (hf : Tryz.pinned.checked.prog.funcNamed "portolan/portolanlaw08.SyntaxLevels" = some f) (hfn : Tryz.pinned.checked.prog.funcs[f]? = some fn) :
    true = Tryz.pinned.checked.prog.looks [] ∧ ∀ (j : Nat) t, fn.params[j]? = some t → Tryz.pinned.checked.prog.wantsStandIn t = false := by
  obtain rfl : f = 7 := Option.some.inj ((show Tryz.prog.funcNamed "portolan/portolanlaw08.SyntaxLevels" = some 7 by kernel_rfl).symm.trans hf) |>.symm
  obtain rfl : fn = Tryz.f7 := (Option.some.inj (Tryz.func7.symm.trans hfn)).symm
  refine ⟨by kernel_rfl, fun j t ht => ?_⟩
  rw [Tryz.params7] at ht
  have ht2 : t = 5 ∨ t = 5 := by simpa using Array.mem_of_getElem? ht
  rcases ht2 with rfl | rfl
  · exact (show Tryz.prog.wantsStandIn 5 = false by kernel_rfl)
  · exact (show Tryz.prog.wantsStandIn 5 = false by kernel_rfl)

theorem syntaxLevels_holds : Rows.SyntaxLevelsCardSaid :=
  Claim7.holds_tied_plain_at .later [] _ _ _ _ syntaxLevels_said (fun _ h => by cases h) (by kernel_rfl) (fun _ h => by cases h) syntaxLevels_row_tie rfl ⟨rfl, rfl⟩ (by kernel_rfl) rfl syntaxLevels_plain (by kernel_rfl)
end Go.Proofs.YtefenbonjepjgaaGreatDoor
