/-
  The law of blanks: the walk.
  SyntaxBlanks returns true for whatever text and numbers it is handed, and leaves them as they were; no conditions.
-/
import Derived.Test.YtefenbonjepjgaaGreatDoorTbs
import Derived.Test.YtefenbonjepjgaaGreatDoorBlw
import Derived.BigQuiet
namespace Go.Proofs.YtefenbonjepjgaaGreatDoor
open Go.ChangeShapes Go.WideShapes Go.ChangeAt Go.RowKit
set_option linter.unusedSimpArgs false
set_option linter.unusedVariables false

/-- The tree that is read, or none; and why not. -/
def qOf : Res Qy → Qy
  | .ok x _ => x
  | .bad _ _ => ⟨[], [], false, [], [], 0⟩
def xOf : Res Ex → Ex
  | .ok x _ => x
  | .bad _ _ => .leaf 0 [] [] 0 false 0 []
def yOf {α : Type} : Res α → Int
  | .ok _ _ => 0
  | .bad _ y => y
theorem of_same {s t : Res Qy} (h : s.er = t.er) : qOf s = qOf t ∧ yOf s = yOf t := by
  rcases er_cases h with ⟨x, L, L', rfl, rfl⟩ | ⟨a, a', y, rfl, rfl⟩ <;> exact ⟨rfl, rfl⟩
theorem ofx_same {s t : Res Ex} (h : s.er = t.er) : xOf s = xOf t ∧ yOf s = yOf t := by
  rcases er_cases h with ⟨x, L, L', rfl, rfl⟩ | ⟨a, a', y, rfl, rfl⟩ <;> exact ⟨rfl, rfl⟩
theorem IsQ.below {b : Nat} {q : Qy} {v : Value} {w w' : World} (h : IsQ b q v w) (hb : Below w.heap.size w w') : IsQ b q v w' := by
  obtain ⟨v0, v1, v3, v4, e, h0, h1, h3, h4⟩ := h
  exact ⟨v0, v1, v3, v4, e, h0.below hb, h1.below hb, h3.below hb, h4.below hb⟩
/-- Parse, whatever the text is, with one way out. -/
theorem parse_tree (s : ByteArray) (hs : s.size ≤ maxLen) (w : World) (hT : Tabs w) :
    Calls Tryz.prog 10 #[.string s] w fun e w' => Below w.heap.size w w' ∧ ∃ p0 c0 p1 c1 p3 c3 p4 c4 a, e = .returned (.tuple #[.agg #[.slice p0 (qOf (parseL s.data.toList)).pats.length c0, .slice p1 (qOf (parseL s.data.toList)).where'.length c1, .bool (qOf (parseL s.data.toList)).dist, .slice p3 (qOf (parseL s.data.toList)).items.length c3, .slice p4 (qOf (parseL s.data.toList)).keys.length c4, .int .i64 (qOf (parseL s.data.toList)).lim], .int .i64 a, .int .i64 (yOf (parseL s.data.toList))]) ∧
      IsQ 0 (qOf (parseL s.data.toList)) (.agg #[.slice p0 (qOf (parseL s.data.toList)).pats.length c0, .slice p1 (qOf (parseL s.data.toList)).where'.length c1, .bool (qOf (parseL s.data.toList)).dist, .slice p3 (qOf (parseL s.data.toList)).items.length c3, .slice p4 (qOf (parseL s.data.toList)).keys.length c4, .int .i64 (qOf (parseL s.data.toList)).lim]) w' := by
  refine (parse10 s hs w hT).mono ?_
  rintro e w' ⟨hb, h⟩
  refine ⟨hb, ?_⟩
  cases hr : parseL s.data.toList with
  | ok x M =>
    rw [hr] at h
    obtain ⟨v, rfl, v0, v1, v3, v4, rfl, hx0, hx1, hx3, hx4⟩ := h
    obtain ⟨p0, c0, rfl⟩ := hx0.val
    obtain ⟨p1, c1, rfl⟩ := hx1.val
    obtain ⟨p3, c3, rfl⟩ := hx3.val
    obtain ⟨p4, c4, rfl⟩ := hx4.val
    exact ⟨_, _, _, _, _, _, _, _, _, rfl, _, _, _, _, rfl, hx0.weak (fun _ _ => Nat.zero_le _), hx1.weak (fun _ _ => Nat.zero_le _), hx3.weak (fun _ _ => Nat.zero_le _), hx4.weak (fun _ _ => Nat.zero_le _)⟩
  | bad a y =>
    rw [hr] at h
    exact ⟨none, 0, none, 0, none, 0, none, 0, _, h, _, _, _, _, rfl, RowS.nil _ _ _ _, RowS.nil _ _ _ _, RowS.nil _ _ _ _, RowS.nil _ _ _ _⟩
theorem parse_treeE (s : ByteArray) (hs : s.size ≤ maxLen) (w : World) (hT : Tabs w) :
    Calls Tryz.prog 13 #[.string s] w fun e w' => Below w.heap.size w w' ∧ ∃ p n c a, e = .returned (.tuple #[.agg #[.int .i64 (opE (xOf (parseEL s.data.toList))), .slice p n c, .string (txt (nmE (xOf (parseEL s.data.toList)))), .string (txt (prE (xOf (parseEL s.data.toList)))), .int .i64 (kE (xOf (parseEL s.data.toList))), .bool (bE (xOf (parseEL s.data.toList))), .int .i64 (nE (xOf (parseEL s.data.toList))), .string (txt (tE (xOf (parseEL s.data.toList)))), .slice none 0 0], .int .i64 a, .int .i64 (yOf (parseEL s.data.toList))]) ∧ ExAt w' (0 ≤ ·) (xOf (parseEL s.data.toList)) (.slice p n c) := by
  refine (parse13 s hs w hT).mono ?_
  rintro e w' ⟨hb, h⟩
  refine ⟨hb, ?_⟩
  cases hr : parseEL s.data.toList with
  | ok x M =>
    rw [hr] at h
    obtain ⟨v, rfl, p, n, c, rfl, hx⟩ := h
    exact ⟨_, _, _, _, rfl, ExAt.weakS (fun _ _ => Nat.zero_le _) _ _ hx⟩
  | bad a y =>
    rw [hr] at h
    exact ⟨none, 0, 0, _, h, rfl⟩
set_option maxRecDepth 100000 in
set_option maxHeartbeats 8000000 in
theorem Blanks_walk (s : ByteArray) (a : Option Addr) (n cp : Nat) (D : Nat → Nat) (hs : s.size ≤ 140737488351232) (hn : n ≤ maxLen) (w : World) (hT : Tabs w) (hA : BysAt w a n D) :
    Calls Tryz.prog 5 #[.string s, .slice a n cp] w fun e w' => e = .returned (.bool true) ∧ Below w.heap.size w w' := by
  have hH := fun (_ : Unit) => head_any w hT
  have hK := fun (w' : World) (hb : Below w.heap.size w w') => blank_any s hs a n cp D hn w' (hT.below hb) ⟨hA.1, by
    rcases hA.2 with h | ⟨b, o, e, h⟩
    · exact .inl h
    · exact .inr ⟨b, o, e, fun i hi => (hb.cell (World.block_lt_of_cell? w _ (h i hi))).trans (h i hi)⟩⟩
  have hP := fun (_ : Unit) => parse_tree s (by unfold maxLen; omega)
  have hE := fun (_ : Unit) => parse_treeE s (by unfold maxLen; omega)
  replace hH : Hid _ := hH
  replace hK : Hid _ := hK
  replace hT : Hid _ := hT
  clear hA
  go_enter Tryz.func5, Tryz.ntmps5
  go_upto_region 3 with (first
    | (go_at_call 9; (have hh := hH.out (); (with_reducible refine Calls.mono hh ?_); clear hh hH; rintro e w1 ⟨rfl, hb1⟩))
    | (go_at_call 16; (with_reducible refine Calls.mono (hK.out _ hb1) ?_); rintro e w2 ⟨t, rfl, htd, htz, hb2⟩))
  have hbA := below_on hb1 hb2
  clear hb1 hb2 hK
  by_cases hz : t.size ≤ 4096
  · have hlen : t.data.toList.length = t.size := Array.length_toList
    have hsame := blank_same s.data.toList (oddC n D) (by rw [← htd, hlen]; exact hz)
    rw [← htd] at hsame
    obtain ⟨e1, e2⟩ := of_same hsame.1
    obtain ⟨e3, e4⟩ := ofx_same hsame.2
    have hP' := fun (_ : Unit) => parse_tree t htz
    have hE' := fun (_ : Unit) => parse_treeE t htz
    rw [← e1, ← e2] at hP'
    rw [← e3, ← e4] at hE'
    clear e1 e2 e3 e4 hsame htd htz
    generalize qOf (parseL s.data.toList) = QS at *
    generalize xOf (parseEL s.data.toList) = XS at *
    generalize yOf (parseL s.data.toList) = YS at *
    generalize yOf (parseEL s.data.toList) = ZS at *
    replace hP : Hid _ := hP
    replace hP' : Hid _ := hP'
    replace hE : Hid _ := hE
    replace hE' : Hid _ := hE'
    have hzi : (t.size : Int) ≤ 4096 := by omega
    have hzd : decide ((t.size : Int) > 4096) = false := by simp; omega
    go_upto_region 5 with fail
    go_upto_region 6 with ((with_reducible refine Calls.mono (hP.out () _ (hT.out.below hbA)) ?_); rintro e w3 ⟨hb3, p0, pc0, p1, pc1, p3, pc3, p4, pc4, pa, rfl, hq⟩; replace hq : Hid _ := hq)
    have hbB := below_on hbA hb3
    have hn3 := below_new w3 (.cells #[.slice p0 QS.pats.length pc0, .slice p1 QS.where'.length pc1, .bool QS.dist, .slice p3 QS.items.length pc3, .slice p4 QS.keys.length pc4, .int .i64 QS.lim] 28)
    have B7 := Blk.new w3 [.slice p0 QS.pats.length pc0, .slice p1 QS.where'.length pc1, .bool QS.dist, .slice p3 QS.items.length pc3, .slice p4 QS.keys.length pc4, .int .i64 QS.lim] 28
    have hq1 := IsQ.below (b := 0) (q := QS) (v := .agg #[.slice p0 QS.pats.length pc0, .slice p1 QS.where'.length pc1, .bool QS.dist, .slice p3 QS.items.length pc3, .slice p4 QS.keys.length pc4, .int .i64 QS.lim]) (w := w3) hq.out hn3
    have hbC := below_on hbB hn3
    clear hq hb3 hbA hbB hn3
    generalize w3.heap.size = R7 at *
    generalize w3.alloc (.cells #[.slice p0 QS.pats.length pc0, .slice p1 QS.where'.length pc1, .bool QS.dist, .slice p3 QS.items.length pc3, .slice p4 QS.keys.length pc4, .int .i64 QS.lim] 28) = W3 at *
    replace hq1 : Hid _ := hq1
    go_upto_region 7 with ((with_reducible refine Calls.mono (hP'.out () _ (hT.out.below hbC)) ?_); rintro e w4 ⟨hb4, q0, qc0, q1, qc1, q3, qc3, q4, qc4, qa, rfl, hq⟩; replace hq : Hid _ := hq)
    have hbD := below_on hbC hb4
    have hn4 := below_new w4 (.cells #[.slice q0 QS.pats.length qc0, .slice q1 QS.where'.length qc1, .bool QS.dist, .slice q3 QS.items.length qc3, .slice q4 QS.keys.length qc4, .int .i64 QS.lim] 28)
    have B8 := Blk.new w4 [.slice q0 QS.pats.length qc0, .slice q1 QS.where'.length qc1, .bool QS.dist, .slice q3 QS.items.length qc3, .slice q4 QS.keys.length qc4, .int .i64 QS.lim] 28
    have hq2 := IsQ.below (b := 0) (q := QS) (v := .agg #[.slice q0 QS.pats.length qc0, .slice q1 QS.where'.length qc1, .bool QS.dist, .slice q3 QS.items.length qc3, .slice q4 QS.keys.length qc4, .int .i64 QS.lim]) (w := w4) hq.out hn4
    have hbE := below_on hbD hn4
    have hq1' := IsQ.below (b := 0) (q := QS) (v := .agg #[.slice p0 QS.pats.length pc0, .slice p1 QS.where'.length pc1, .bool QS.dist, .slice p3 QS.items.length pc3, .slice p4 QS.keys.length pc4, .int .i64 QS.lim]) (w := W3) hq1.out (below_on hb4 hn4)
    have B7' := (B7.grown hb4).grown hn4
    clear hq hq1 hb4 hbC hbD hn4 B7
    generalize w4.heap.size = R8 at *
    generalize w4.alloc (.cells #[.slice q0 QS.pats.length qc0, .slice q1 QS.where'.length qc1, .bool QS.dist, .slice q3 QS.items.length qc3, .slice q4 QS.keys.length qc4, .int .i64 QS.lim] 28) = W4 at *
    replace hq1' : Hid _ := hq1'
    replace hq2 : Hid _ := hq2
    go_upto_region 8 with ((with_reducible refine Calls.mono (hE.out () _ (hT.out.below hbE)) ?_); rintro e w5 ⟨hb5, ep, en, ec, ea, rfl, hx⟩; replace hx : Hid _ := hx)
    have hbF := below_on hbE hb5
    have hn5 := below_new w5 (.cells #[.int .i64 (opE XS), .slice ep en ec, .string (txt (nmE XS)), .string (txt (prE XS)), .int .i64 (kE XS), .bool (bE XS), .int .i64 (nE XS), .string (txt (tE XS)), .slice none 0 0] 40)
    have B9 := Blk.new w5 [.int .i64 (opE XS), .slice ep en ec, .string (txt (nmE XS)), .string (txt (prE XS)), .int .i64 (kE XS), .bool (bE XS), .int .i64 (nE XS), .string (txt (tE XS)), .slice none 0 0] 40
    have hx1 := ExAt.keep (S := (0 ≤ ·)) (x := XS) (ks := .slice ep en ec) (w := w5) hx.out hn5
    have hbG := below_on hbF hn5
    have hq1'' := IsQ.below (b := 0) (q := QS) (v := .agg #[.slice p0 QS.pats.length pc0, .slice p1 QS.where'.length pc1, .bool QS.dist, .slice p3 QS.items.length pc3, .slice p4 QS.keys.length pc4, .int .i64 QS.lim]) (w := W4) hq1'.out (below_on hb5 hn5)
    have hq2' := IsQ.below (b := 0) (q := QS) (v := .agg #[.slice q0 QS.pats.length qc0, .slice q1 QS.where'.length qc1, .bool QS.dist, .slice q3 QS.items.length qc3, .slice q4 QS.keys.length qc4, .int .i64 QS.lim]) (w := W4) hq2.out (below_on hb5 hn5)
    have B7'' := (B7'.grown hb5).grown hn5
    have B8' := (B8.grown hb5).grown hn5
    clear hx hq1' hq2 hb5 hbE hbF hn5 B7' B8
    generalize w5.heap.size = R9 at *
    generalize w5.alloc (.cells #[.int .i64 (opE XS), .slice ep en ec, .string (txt (nmE XS)), .string (txt (prE XS)), .int .i64 (kE XS), .bool (bE XS), .int .i64 (nE XS), .string (txt (tE XS)), .slice none 0 0] 40) = W5 at *
    replace hq1'' : Hid _ := hq1''
    replace hq2' : Hid _ := hq2'
    replace hx1 : Hid _ := hx1
    go_upto_region 9 with ((with_reducible refine Calls.mono (hE'.out () _ (hT.out.below hbG)) ?_); rintro e w6 ⟨hb6, fp, fn, fc, fa, rfl, hx⟩; replace hx : Hid _ := hx)
    have hbH := below_on hbG hb6
    have hn6 := below_new w6 (.cells #[.int .i64 (opE XS), .slice fp fn fc, .string (txt (nmE XS)), .string (txt (prE XS)), .int .i64 (kE XS), .bool (bE XS), .int .i64 (nE XS), .string (txt (tE XS)), .slice none 0 0] 40)
    have B10 := Blk.new w6 [.int .i64 (opE XS), .slice fp fn fc, .string (txt (nmE XS)), .string (txt (prE XS)), .int .i64 (kE XS), .bool (bE XS), .int .i64 (nE XS), .string (txt (tE XS)), .slice none 0 0] 40
    have hx2 := ExAt.keep (S := (0 ≤ ·)) (x := XS) (ks := .slice fp fn fc) (w := w6) hx.out hn6
    have hx1' := ExAt.keep (S := (0 ≤ ·)) (x := XS) (ks := .slice ep en ec) (w := W5) hx1.out (below_on hb6 hn6)
    have hbI := below_on hbH hn6
    have gq1 := IsQ.below (b := 0) (q := QS) (v := .agg #[.slice p0 QS.pats.length pc0, .slice p1 QS.where'.length pc1, .bool QS.dist, .slice p3 QS.items.length pc3, .slice p4 QS.keys.length pc4, .int .i64 QS.lim]) (w := W5) hq1''.out (below_on hb6 hn6)
    have gq2 := IsQ.below (b := 0) (q := QS) (v := .agg #[.slice q0 QS.pats.length qc0, .slice q1 QS.where'.length qc1, .bool QS.dist, .slice q3 QS.items.length qc3, .slice q4 QS.keys.length qc4, .int .i64 QS.lim]) (w := W5) hq2'.out (below_on hb6 hn6)
    have C7 := (B7''.grown hb6).grown hn6
    have C8 := (B8'.grown hb6).grown hn6
    have C9 := (B9.grown hb6).grown hn6
    clear hx hx1 hq1'' hq2' hb6 hbG hbH hn6 B7'' B8' B9
    generalize w6.heap.size = R10 at *
    generalize w6.alloc (.cells #[.int .i64 (opE XS), .slice fp fn fc, .string (txt (nmE XS)), .string (txt (prE XS)), .int .i64 (kE XS), .bool (bE XS), .int .i64 (nE XS), .string (txt (tE XS)), .slice none 0 0] 40) = W6 at *
    have k0 : W6.cell? ⟨R7, 0, none⟩ = some (.slice p0 QS.pats.length pc0) := C7.c 0 (by simp)
    have k1 : W6.cell? ⟨R7, 1, none⟩ = some (.slice p1 QS.where'.length pc1) := C7.c 1 (by simp)
    have k2 : W6.cell? ⟨R7, 2, none⟩ = some (.bool QS.dist) := C7.c 2 (by simp)
    have k3 : W6.cell? ⟨R7, 3, none⟩ = some (.slice p3 QS.items.length pc3) := C7.c 3 (by simp)
    have k4 : W6.cell? ⟨R7, 4, none⟩ = some (.slice p4 QS.keys.length pc4) := C7.c 4 (by simp)
    have k5 : W6.cell? ⟨R7, 5, none⟩ = some (.int .i64 QS.lim) := C7.c 5 (by simp)
    have l0 : W6.cell? ⟨R8, 0, none⟩ = some (.slice q0 QS.pats.length qc0) := C8.c 0 (by simp)
    have l1 : W6.cell? ⟨R8, 1, none⟩ = some (.slice q1 QS.where'.length qc1) := C8.c 1 (by simp)
    have l2 : W6.cell? ⟨R8, 2, none⟩ = some (.bool QS.dist) := C8.c 2 (by simp)
    have l3 : W6.cell? ⟨R8, 3, none⟩ = some (.slice q3 QS.items.length qc3) := C8.c 3 (by simp)
    have l4 : W6.cell? ⟨R8, 4, none⟩ = some (.slice q4 QS.keys.length qc4) := C8.c 4 (by simp)
    have l5 : W6.cell? ⟨R8, 5, none⟩ = some (.int .i64 QS.lim) := C8.c 5 (by simp)
    have hS : Unit → Calls Tryz.prog 12 #[.agg #[.slice p0 QS.pats.length pc0, .slice p1 QS.where'.length pc1, .bool QS.dist, .slice p3 QS.items.length pc3, .slice p4 QS.keys.length pc4, .int .i64 QS.lim], .agg #[.slice q0 QS.pats.length qc0, .slice q1 QS.where'.length qc1, .bool QS.dist, .slice q3 QS.items.length qc3, .slice q4 QS.keys.length qc4, .int .i64 QS.lim]] W6 fun e w' => e = .returned (.bool true) ∧ Below W6.heap.size W6 w' := fun _ => sameQ_yes QS 0 0 _ _ W6 gq1 gq2
    have hX : ∀ w' : World, Below W6.heap.size W6 w' → Calls Tryz.prog 15 #[.agg #[.int .i64 (opE XS), .slice ep en ec, .string (txt (nmE XS)), .string (txt (prE XS)), .int .i64 (kE XS), .bool (bE XS), .int .i64 (nE XS), .string (txt (tE XS)), .slice none 0 0], .agg #[.int .i64 (opE XS), .slice fp fn fc, .string (txt (nmE XS)), .string (txt (prE XS)), .int .i64 (kE XS), .bool (bE XS), .int .i64 (nE XS), .string (txt (tE XS)), .slice none 0 0]] w' fun e w'' => e = .returned (.bool true) ∧ Below w'.heap.size w' w'' := fun (w' : World) (hb : Below W6.heap.size W6 w') => sameE_yes XS _ _ _ _ _ _ _ _ w' (ExAt.keep hx1' hb) (ExAt.keep hx2 hb)
    replace hS : Hid _ := hS
    replace hX : Hid _ := hX
    clear gq1 gq2 hx1' hx2 hP hP' hE hE'
    go_upto_region 10 with ((with_reducible refine Calls.mono (hS.out ()) ?_); rintro e w7 ⟨rfl, hb7⟩)
    have C9 := C9.grown hb7
    have B10 := B10.grown hb7
    have g0 : w7.cell? ⟨R9, 0, none⟩ = some (.int .i64 (opE XS)) := C9.c 0 (by simp)
    have g1 : w7.cell? ⟨R9, 1, none⟩ = some (.slice ep en ec) := C9.c 1 (by simp)
    have g2 : w7.cell? ⟨R9, 2, none⟩ = some (.string (txt (nmE XS))) := C9.c 2 (by simp)
    have g3 : w7.cell? ⟨R9, 3, none⟩ = some (.string (txt (prE XS))) := C9.c 3 (by simp)
    have g4 : w7.cell? ⟨R9, 4, none⟩ = some (.int .i64 (kE XS)) := C9.c 4 (by simp)
    have g5 : w7.cell? ⟨R9, 5, none⟩ = some (.bool (bE XS)) := C9.c 5 (by simp)
    have g6 : w7.cell? ⟨R9, 6, none⟩ = some (.int .i64 (nE XS)) := C9.c 6 (by simp)
    have g7 : w7.cell? ⟨R9, 7, none⟩ = some (.string (txt (tE XS))) := C9.c 7 (by simp)
    have g8 : w7.cell? ⟨R9, 8, none⟩ = some (.slice none 0 0) := C9.c 8 (by simp)
    have h0 : w7.cell? ⟨R10, 0, none⟩ = some (.int .i64 (opE XS)) := B10.c 0 (by simp)
    have h1 : w7.cell? ⟨R10, 1, none⟩ = some (.slice fp fn fc) := B10.c 1 (by simp)
    have h2 : w7.cell? ⟨R10, 2, none⟩ = some (.string (txt (nmE XS))) := B10.c 2 (by simp)
    have h3 : w7.cell? ⟨R10, 3, none⟩ = some (.string (txt (prE XS))) := B10.c 3 (by simp)
    have h4 : w7.cell? ⟨R10, 4, none⟩ = some (.int .i64 (kE XS)) := B10.c 4 (by simp)
    have h5 : w7.cell? ⟨R10, 5, none⟩ = some (.bool (bE XS)) := B10.c 5 (by simp)
    have h6 : w7.cell? ⟨R10, 6, none⟩ = some (.int .i64 (nE XS)) := B10.c 6 (by simp)
    have h7 : w7.cell? ⟨R10, 7, none⟩ = some (.string (txt (tE XS))) := B10.c 7 (by simp)
    have h8 : w7.cell? ⟨R10, 8, none⟩ = some (.slice none 0 0) := B10.c 8 (by simp)
    clear hS
    go_upto_region 11 with ((with_reducible refine Calls.mono (hX.out _ hb7) ?_); rintro e w8 ⟨rfl, hb8⟩)
    go_wp2_with fail
    go_returns
    exact ⟨by simp, below_on (below_on hbI hb7) hb8⟩
  · have hzi : 4096 < (t.size : Int) := by omega
    go_wp2_with fail
    go_returns
    exact ⟨by simp, hbA⟩
end Go.Proofs.YtefenbonjepjgaaGreatDoor
namespace Go.Proofs.YtefenbonjepjgaaGreatDoor
open Go.ChangeShapes Go.WideShapes Go.ChangeAt Go.RowKit
set_option linter.unusedVariables false
set_option linter.unusedSimpArgs false

theorem cells5 : Tryz.prog.cellsOf 5 = 1 := by kernel_rfl
set_option maxRecDepth 100000 in
/-- Bytes that came in. -/
theorem open_u8s {H : Type} {enc : TypeId × Value → H} {w : World} {held : Bool} {r : Reach} {b0 : Nat} {v : Value} {d : DataW H} {p : List MemPlace} (hv : Value.okWide Tryz.prog w r b0 44 v) (h : DataW.Trod enc Tryz.prog w 0 (fun _ => true) held 44 v d p) : ∃ a n c D, v = .slice a n c ∧ BysAt w a n D ∧ n ≤ maxLen := by
  obtain ⟨a, l, c, rfl⟩ := okWide_slice Tryz.underlying44 hv
  obtain ⟨fuel, hf⟩ := h
  rcases open_ints Tryz.underlying44 Tryz.underlying5 cells5 hf with ⟨hcs, _⟩ | ⟨x, l', c', zs, hcs, _, hl, hm, hz, _, hcell, hwz⟩
  · simp [Value.cells] at hcs
    obtain ⟨rfl, rfl, rfl⟩ := hcs
    exact ⟨none, 0, 0, fun _ => 0, rfl, ⟨fun _ => (by decide : 0 < 256), .inl rfl⟩, Nat.zero_le _⟩
  · simp [Value.cells] at hcs
    obtain ⟨rfl, rfl, rfl⟩ := hcs
    simp only [if_true] at hz
    have hb : ∀ i, 0 ≤ zs.getD i 0 ∧ zs.getD i 0 < 256 := fun i => by
      have := range_u8 hwz i
      simp only [List.getD]
      omega
    refine ⟨some x, l, c, fun i => (zs.getD i 0).toNat, rfl, ⟨fun i => by have := hb i; show (zs.getD i 0).toNat < 256; omega, ?_⟩, Nat.le_trans hl hm⟩
    by_cases hl0 : l = 0
    · exact .inl hl0
    · obtain ⟨b, off, rfl, hc⟩ := ints_at hcell (by omega)
      refine .inr ⟨b, off, rfl, fun i hi => ?_⟩
      rw [hc i (by omega), Int.toNat_of_nonneg (hb i).1]
set_option maxRecDepth 100000 in
theorem syntaxBlanks_contract (H : Type) (enc : TypeId × Value → H) (W : World) (base : Nat) (args : Array Value) (ds gs : List (DataW H)) (before : List MemPlace)
    (hval0 : ∀ (j : Nat) t v, Tryz.f5.params[j]? = some t → args[j]? = some v → Value.okWide Tryz.prog W .any base t v)
    (hW : DataW.Whole enc Tryz.prog Tryz.f5.params.toList Rows.syntaxBlanksSpec.vars false W args.toList ds gs before) 
    (hsz : (DataW.weightsEach Tryz.prog (Tryz.f5.params.toList ++ (OpenSpec.ofChange Rows.syntaxBlanksSpec).bare.plain.varTypes Tryz.prog) (ds ++ gs)).all (· ≤ reachBytes) = true) (hL : laidMetH Tryz.prog Rows.syntaxBlanksRow.laid W) :
    Calls Tryz.prog 5 args W fun e W' => ∃ v, e = .returned v ∧ Rows.syntaxBlanksSpec.post enc Tryz.prog Tryz.f5 false true false false W args v W' := by
  have hval : ∀ (j : Nat) t v, Tryz.f5.params[j]? = some t → args[j]? = some v → Value.okWide Tryz.prog W .any base t v := hval0
  have hW' := hW
  obtain ⟨p, q, hA0, hV, rfl, hfz, hnd⟩ := hW
  have hA : DataW.TrodAll enc Tryz.prog W 0 (fun _ => true) true Tryz.f5.params.toList args.toList ds p := hA0
  rw [Tryz.params5] at hA hval
  obtain ⟨v0, vs0, d0, ds0, p0, q0, hargs, rfl, rfl, h0, r0⟩ := trodAll_cons hA
  obtain ⟨v1, vs1, d1, ds1, p1, q1, rfl, rfl, rfl, h1, r1⟩ := trodAll_cons r0
  obtain ⟨rfl, rfl, rfl⟩ := trodAll_nil r1
  obtain rfl : args = #[v0, v1] := by cases args; simp_all
  obtain ⟨rfl, rfl⟩ := trodVars_none hV
  have m0 := h0
  have lt0 : ∀ x ∈ p0, x.block < W.heap.size := by obtain ⟨m, hm⟩ := m0; exact DataW.trod_lt m _ _ _ hm
  have m1 := h1
  have lt1 : ∀ x ∈ p1, x.block < W.heap.size := by obtain ⟨m, hm⟩ := m1; exact DataW.trod_lt m _ _ _ hm
  obtain ⟨s, rfl, hs, es⟩ : ∃ s, v0 = .string s ∧ s.size ≤ maxLen ∧ d0 = .lit (.string s.data.toList) := by
    obtain ⟨s, rfl⟩ := okWide_string Tryz.underlying9 (hval 0 9 v0 rfl rfl)
    obtain ⟨fuel, hf⟩ := h0
    obtain ⟨s3, e3, x3, w3⟩ := DataW.trod_string Tryz.underlying9 hf
    simp [Value.cells] at e3
    subst e3
    exact ⟨_, rfl, w3, congrArg Prod.fst x3⟩
  obtain ⟨ta, tn, tc, tD, rfl, ht, htn⟩ := open_u8s (hval 1 44 v1 rfl rfl) h1
  have hzs : s.size ≤ 140737488351232 := by
    have h2 : s.data.toList.length = s.size := Array.length_toList
    have hx := List.all_eq_true.1 hsz _ (DataW.weights_mem_each (j := 0) (t := 9) (by rw [Tryz.params5]; rfl) rfl s.data.toList.length (by rw [es]; simp [DataW.weights]))
    have hy : s.data.toList.length ≤ reachBytes := by simpa using hx
    unfold reachBytes at hy
    omega
  clear hA0 hval0 hval
  refine (Blanks_walk s ta tn tc tD hzs htn W (tabs_of hL) ht).mono fun e W' ⟨he, bel⟩ => ?_
  subst he
  exact ⟨_, rfl, _, _, _, [], _, [], hW', trodAll_mk1 (shut_bool Tryz.underlying4 _), (trodAll_cons_mk (Below.trod laidOut (by kernel_rfl) (of_decide_eq_true (by kernel_rfl)) m0 bel lt0) (trodAll_cons_mk (Below.trod laidOut (by kernel_rfl) (of_decide_eq_true (by kernel_rfl)) m1 bel lt1) trodAll_mk0)), rfl, bel.frame _, fun h => by cases h⟩

theorem syntaxBlanks_reads (os : Os) {H : Type} (enc : TypeId × Value → H) : ∃ places, DataW.whole enc Tryz.prog ((laidWorld os).forCall (fun _ _ => 0) ⟨#[], #[.string ⟨#[]⟩, .slice none 0 0], []⟩).memory Tryz.f5.params.toList Rows.syntaxBlanksSpec.vars false #[.string ⟨#[]⟩, .slice none 0 0].toList 8 = some ([.lit (.string []), .nil], [], places) :=
  ⟨[], by kernel_rfl⟩

set_option maxRecDepth 100000 in
theorem syntaxBlanks_lifted (os : Os) (started : os.Started) (H : Type) (enc : TypeId × Value → H) (F : Stop.Interp) :
    ReturnsInHanded {} Tryz.checked os 5 .any ((OpenSpec.ofChange Rows.syntaxBlanksSpec).preRow enc Tryz.prog Tryz.f5 Rows.syntaxBlanksRow.domain false Rows.syntaxBlanksRow.laid) (((OpenSpec.ofChange Rows.syntaxBlanksSpec).at F).post enc Tryz.prog Tryz.f5 false true false false) := by
  obtain ⟨places, hx⟩ := syntaxBlanks_reads os enc
  refine returnsInHanded_of_row (C := Tryz.checked) (s := (OpenSpec.ofChange Rows.syntaxBlanksSpec)) own started (by kernel_rfl) Tryz.func5
    (witness_row_shaped (enc := enc) (C := Tryz.checked) false (laidWorld os) #[.string ⟨#[]⟩, .slice none 0 0] (laid_os os) (World.shaped_of_ZipB (by kernel_rfl) (by kernel_rfl)) (by kernel_rfl)
      (OpenSpec.preRow_of_cond 8 hx (by kernel_rfl) (fun k hk => by cases hk) (by kernel_rfl) (laid_met os #[.string ⟨#[]⟩, .slice none 0 0]))) ?_
  intro W base args ds gs before hval hW _ hcond hsz hL _ _
  exact syntaxBlanks_contract H enc W base args ds gs before hval hW hsz hL

theorem syntaxBlanks_said : Rows.SyntaxBlanksSaid :=
  OpenClaim.holds_of_cond 5 Tryz.f5 rfl rfl rfl rfl rfl rfl rfl ⟨rfl, rfl, rfl, rfl, rfl⟩ rfl rfl rfl rfl rfl (by kernel_rfl) Tryz.func5 (by kernel_rfl)
    (of_decide_eq_true (by kernel_rfl)) (by unfold Func.isWrapper; first | (rw [if_pos (by decide +kernel)]; kernel_rfl) | (rw [if_neg (by decide +kernel)]; exact ⟨rfl, rfl⟩))
    (fun os started H enc _ F => by rw [OpenClaim.pre_eq_preRow]; exact syntaxBlanks_lifted os started H enc F)

theorem syntaxBlanks_plain (f : FuncId) (fn : Func) (hf : Tryz.pinned.checked.prog.funcNamed "portolan/portolanlaw08.SyntaxBlanks" = some f) (hfn : Tryz.pinned.checked.prog.funcs[f]? = some fn) :
    true = Tryz.pinned.checked.prog.looks [] ∧ ∀ (j : Nat) t, fn.params[j]? = some t → Tryz.pinned.checked.prog.wantsStandIn t = false := by
  obtain rfl : f = 5 := Option.some.inj ((show Tryz.prog.funcNamed "portolan/portolanlaw08.SyntaxBlanks" = some 5 by kernel_rfl).symm.trans hf) |>.symm
  obtain rfl : fn = Tryz.f5 := (Option.some.inj (Tryz.func5.symm.trans hfn)).symm
  refine ⟨by kernel_rfl, fun j t ht => ?_⟩
  rw [Tryz.params5] at ht
  have ht2 : t = 9 ∨ t = 44 := by simpa using Array.mem_of_getElem? ht
  rcases ht2 with rfl | rfl
  · exact (show Tryz.prog.wantsStandIn 9 = false by kernel_rfl)
  · exact (show Tryz.prog.wantsStandIn 44 = false by kernel_rfl)

theorem syntaxBlanks_holds : Rows.SyntaxBlanksCardSaid :=
  Claim7.holds_tied_plain_at .later [] _ _ _ _ syntaxBlanks_said (fun _ h => by cases h) (by kernel_rfl) (fun _ h => by cases h) syntaxBlanks_row_tie rfl ⟨rfl, rfl⟩ (by kernel_rfl) rfl syntaxBlanks_plain (by kernel_rfl)
end Go.Proofs.YtefenbonjepjgaaGreatDoor
