/-
  A value on its own (copied), and whether two things are alike in all fields (Same).
-/
import Derived.Test.YtokkmjcpjjiaaaaDoorShw
import Derived.BigQuiet
import Derived.Maps.AppendAt
namespace Go.Proofs.YtokkmjcpjjiaaaaDoor
open Go.ChangeShapes Go.WideShapes Go.ChangeAt Go.RowKit
open S9 (info_parts below_row)
set_option linter.unusedSimpArgs false
set_option linter.unusedVariables false

theorem infoI : (Tryd.prog.info? 2).map (fun i => (i.zero, i.size, i.bytes)) = some (some (.int .i64 0), 1, 8) := by kernel_rfl
theorem box_cell {w : World} {k T : Nat} {cs : Array Value} {fz : Nat × Nat} (hk : w.heap[k]? = some (.cells cs T fz)) (i : Nat) : w.cell? ⟨k, i, none⟩ = cs[i]? := by
  simp [World.cell?, hk]
theorem box_free {w : World} {k T : Nat} {cs : Array Value} (hk : w.heap[k]? = some (.cells cs T (0, 0))) (i : Nat) : w.frozen? ⟨k, i, none⟩ = false := by
  simp [World.frozen?, hk]
theorem below_set {B : Nat} {a w : World} (h : Below B a w) {x j : Nat} {v : Value} (hx : B ≤ x) : Below B a (w.setCell ⟨x, j, none⟩ v) :=
  ⟨h.os, h.tape, h.output, by simpa [World.setCell] using h.size, fun i hi => (Below.heap_setCell _ _ _ _ (by show i ≠ x; omega)).trans (h.block i hi)⟩
theorem cell_set {w : World} {g i x j : Nat} {v : Value} (h : g ≠ x) : (w.setCell ⟨x, j, none⟩ v).cell? ⟨g, i, none⟩ = w.cell? ⟨g, i, none⟩ :=
  World.cell?_of_block (Below.heap_setCell _ _ _ _ h)
theorem set_same {w : World} {a : Addr} {u v : Value} (h : w.cell? a = some u) : (w.setCell a v).cell? a = some v := World.cell?_setCell_same _ _ _ h
theorem set_at (w : World) (B : Nat) {i j : Nat} (v : Value) (h : i ≠ j) : (w.setCell ⟨B, i, none⟩ v).cell? ⟨B, j, none⟩ = w.cell? ⟨B, j, none⟩ :=
  World.cell?_setCell_other _ _ _ _ (fun e => h (congrArg Addr.off e))
theorem six_cells {x : Nat} {w : World} {v v0 v1 v2 v3 v4 u0 u1 u2 u3 u4 : Value} (h0 : w.cell? ⟨x + 1, 0, none⟩ = some u0) (h1 : w.cell? ⟨x + 1, 1, none⟩ = some u1) (h2 : w.cell? ⟨x + 1, 2, none⟩ = some u2) (h3 : w.cell? ⟨x + 1, 3, none⟩ = some u3) (h4 : w.cell? ⟨x + 1, 4, none⟩ = some u4) :
    ∀ W, W = ((((((w.setCell ⟨x, 4, none⟩ v).setCell ⟨x + 1, 0, none⟩ v0).setCell ⟨x + 1, 1, none⟩ v1).setCell ⟨x + 1, 2, none⟩ v2).setCell ⟨x + 1, 3, none⟩ v3).setCell ⟨x + 1, 4, none⟩ v4) → W.cell? ⟨x + 1, 0, none⟩ = some v0 ∧ W.cell? ⟨x + 1, 1, none⟩ = some v1 ∧ W.cell? ⟨x + 1, 2, none⟩ = some v2 ∧ W.cell? ⟨x + 1, 3, none⟩ = some v3 ∧ W.cell? ⟨x + 1, 4, none⟩ = some v4 := by
  rintro W rfl
  refine ⟨?_, ?_, ?_, ?_, ?_⟩
  · exact (set_at _ _ _ (by decide)).trans ((set_at _ _ _ (by decide)).trans ((set_at _ _ _ (by decide)).trans ((set_at _ _ _ (by decide)).trans (set_same ((cell_set (by omega)).trans h0)))))
  · exact (set_at _ _ _ (by decide)).trans ((set_at _ _ _ (by decide)).trans ((set_at _ _ _ (by decide)).trans (set_same ((set_at _ _ _ (by decide)).trans ((cell_set (by omega)).trans h1)))))
  · exact (set_at _ _ _ (by decide)).trans ((set_at _ _ _ (by decide)).trans (set_same ((set_at _ _ _ (by decide)).trans ((set_at _ _ _ (by decide)).trans ((cell_set (by omega)).trans h2)))))
  · exact (set_at _ _ _ (by decide)).trans (set_same ((set_at _ _ _ (by decide)).trans ((set_at _ _ _ (by decide)).trans ((set_at _ _ _ (by decide)).trans ((cell_set (by omega)).trans h3)))))
  · exact set_same ((set_at _ _ _ (by decide)).trans ((set_at _ _ _ (by decide)).trans ((set_at _ _ _ (by decide)).trans ((set_at _ _ _ (by decide)).trans ((cell_set (by omega)).trans h4)))))
theorem below_six {B x : Nat} {a w : World} (h : Below B a w) (hx : B ≤ x) {v v0 v1 v2 v3 v4 : Value} : Below B a ((((((w.setCell ⟨x, 4, none⟩ v).setCell ⟨x + 1, 0, none⟩ v0).setCell ⟨x + 1, 1, none⟩ v1).setCell ⟨x + 1, 2, none⟩ v2).setCell ⟨x + 1, 3, none⟩ v3).setCell ⟨x + 1, 4, none⟩ v4) :=
  below_set (below_set (below_set (below_set (below_set (below_set h hx) (by omega)) (by omega)) (by omega)) (by omega)) (by omega)
theorem cell_six {x g i : Nat} {w : World} (hg : x + 2 ≤ g) {v v0 v1 v2 v3 v4 : Value} : ((((((w.setCell ⟨x, 4, none⟩ v).setCell ⟨x + 1, 0, none⟩ v0).setCell ⟨x + 1, 1, none⟩ v1).setCell ⟨x + 1, 2, none⟩ v2).setCell ⟨x + 1, 3, none⟩ v3).setCell ⟨x + 1, 4, none⟩ v4).cell? ⟨g, i, none⟩ = w.cell? ⟨g, i, none⟩ :=
  (cell_set (by omega)).trans ((cell_set (by omega)).trans ((cell_set (by omega)).trans ((cell_set (by omega)).trans ((cell_set (by omega)).trans (cell_set (by omega))))))
def rowI (z : List Int) : List Value := z.map fun m => .int .i64 m
/-- A path's own copy. -/
theorem path_row {w : World} {B : Nat} {v : Value} {z : List Int} (h : w.ownsRow B 2 1 v z.length (rowI z)) : ∃ p c, v = .slice p z.length c ∧ z.length ≤ c ∧ (z = [] ∨ ∃ g, p = some ⟨g, 0, none⟩ ∧ B ≤ g ∧ ∀ i, i < z.length → w.cell? ⟨g, 0 + i, none⟩ = some (.int .i64 (z.getD i 0))) := by
  obtain ⟨hl, ⟨rfl, h0⟩ | ⟨g, cap, cur, rfl, hge, hblk, hncap, hcapm, hcsz, htake⟩⟩ := h
  · refine ⟨none, 0, by rw [h0], by omega, .inl (List.length_eq_zero_iff.1 h0)⟩
  · refine ⟨some ⟨g, 0, none⟩, cap, rfl, hncap, .inr ⟨g, rfl, hge, fun i hi => ?_⟩⟩
    have e1 : w.cell? ⟨g, 0 + i, none⟩ = cur[i]? := by simp [World.cell?, hblk]
    have e2 : (cur.toList.take (z.length * 1))[i]? = cur[i]? := by rw [List.getElem?_take_of_lt (by omega)]; simp
    rw [e1, ← e2, htake]
    unfold rowI
    rw [List.getElem?_map, List.getElem?_eq_getElem hi]
    simp [List.getD, List.getElem?_eq_getElem hi]
set_option maxRecDepth 100000 in
set_option maxHeartbeats 2000000 in
theorem copied_any (k : Int) (b : Bool) (n : Int) (s : ByteArray) (p : Option Addr) (l c : Nat) (z : List Int) (w : World) (h1 : z.length = l) (q : PathAt w p z) (hl : l * 8 ≤ 140737488351232) :
    Calls Tryd.prog 10 #[.agg #[.int .i64 k, .bool b, .int .i64 n, .string s, .slice p l c]] w fun e w' => ∃ p' c', e = .returned (.agg #[.int .i64 k, .bool b, .int .i64 n, .string s, .slice p' l c']) ∧ PathAt w' p' z ∧ l ≤ c' ∧ Below w.heap.size w w' := by
  subst h1
  obtain ⟨i0, hi0, hz0, hz1, hz2⟩ := info_parts infoI
  have hpc : ∃ ad : Addr, (p = some ad ∨ (p = none ∧ z = [])) ∧ ∀ (W : World), Below w.heap.size w W → ∀ (j : Nat) (u : Value), (rowI z)[j]? = some u → W.cell? (ad.add j) = some u := by
    rcases q with rfl | ⟨b0, off, rfl, hc⟩
    · cases p with
      | none => exact ⟨⟨0, 0, none⟩, .inr ⟨rfl, rfl⟩, fun W hb j u hu => by simp [rowI] at hu⟩
      | some ad => exact ⟨ad, .inl rfl, fun W hb j u hu => by simp [rowI] at hu⟩
    · refine ⟨⟨b0, off, none⟩, .inl rfl, fun W hb j u hu => ?_⟩
      have hj : j < z.length := by
        have := (List.getElem?_eq_some_iff.1 hu).1
        simpa [rowI] using this
      have h1 := hc j hj
      have hu2 : u = .int .i64 (z.getD j 0) := by
        unfold rowI at hu
        rw [List.getElem?_map, List.getElem?_eq_getElem hj] at hu
        simp only [Option.map_some, Option.some.injEq] at hu
        rw [← hu]
        simp [List.getD, List.getElem?_eq_getElem hj]
      rw [hu2, Go.WideShapes.add_plain]
      exact (hb.cell (World.block_lt_of_cell? w _ h1)).trans h1
  obtain ⟨ad, hp, hnews⟩ := hpc
  have h1c : ∀ u ∈ rowI z, u.oneCell' = true := fun u hu => by
    obtain ⟨m, _, rfl⟩ := List.mem_map.1 hu
    rfl
  have hrl : (rowI z).length = z.length * 1 := by simp [rowI]
  have b1 := below_new w (.cells #[.int .i64 k, .bool b, .int .i64 n, .string s, .slice p z.length c] 25)
  have b2 := below_new (w.alloc (.cells #[.int .i64 k, .bool b, .int .i64 n, .string s, .slice p z.length c] 25)) (.cells #[.int .i64 0, .bool false, .int .i64 0, .string ⟨#[]⟩, .slice none 0 0] 25)
  have b3 := below_new ((w.alloc (.cells #[.int .i64 k, .bool b, .int .i64 n, .string s, .slice p z.length c] 25)).alloc (.cells #[.int .i64 0, .bool false, .int .i64 0, .string ⟨#[]⟩, .slice none 0 0] 25)) (.cells #[] 2)
  have hb := below_on (below_on b1 b2) b3
  have n3 := heap_alloc_new ((w.alloc (.cells #[.int .i64 k, .bool b, .int .i64 n, .string s, .slice p z.length c] 25)).alloc (.cells #[.int .i64 0, .bool false, .int .i64 0, .string ⟨#[]⟩, .slice none 0 0] 25)) (.cells #[] 2)
  have n1 := (b3.block _ (by simp; omega)).trans ((b2.block _ (by simp)).trans (heap_alloc_new w (.cells #[.int .i64 k, .bool b, .int .i64 n, .string s, .slice p z.length c] 25)))
  have n2 := (b3.block _ (by simp)).trans (heap_alloc_new (w.alloc (.cells #[.int .i64 k, .bool b, .int .i64 n, .string s, .slice p z.length c] 25)) (.cells #[.int .i64 0, .bool false, .int .i64 0, .string ⟨#[]⟩, .slice none 0 0] 25))
  have e1 : (w.alloc (.cells #[.int .i64 k, .bool b, .int .i64 n, .string s, .slice p z.length c] 25)).heap.size = w.heap.size + 1 := by simp
  have e2 : ((w.alloc (.cells #[.int .i64 k, .bool b, .int .i64 n, .string s, .slice p z.length c] 25)).alloc (.cells #[.int .i64 0, .bool false, .int .i64 0, .string ⟨#[]⟩, .slice none 0 0] 25)).heap.size = w.heap.size + 2 := by simp
  rw [e1] at n2
  rw [e2] at n3
  have hn3 := hnews _ hb
  have e3 : (((w.alloc (.cells #[.int .i64 k, .bool b, .int .i64 n, .string s, .slice p z.length c] 25)).alloc (.cells #[.int .i64 0, .bool false, .int .i64 0, .string ⟨#[]⟩, .slice none 0 0] 25)).alloc (.cells #[] 2)).heap.size = w.heap.size + 3 := by simp
  have hown : (((w.alloc (.cells #[.int .i64 k, .bool b, .int .i64 n, .string s, .slice p z.length c] 25)).alloc (.cells #[.int .i64 0, .bool false, .int .i64 0, .string ⟨#[]⟩, .slice none 0 0] 25)).alloc (.cells #[] 2)).ownsRow (w.heap.size + 2) 2 1 (.slice (some ⟨w.heap.size + 2, 0, none⟩) 0 0) 0 [] :=
    ⟨rfl, .inr ⟨w.heap.size + 2, 0, #[], rfl, Nat.le_refl _, n3, Nat.le_refl _, by unfold maxLen; omega, rfl, rfl⟩⟩
  replace hi0 : Hid _ := hi0
  replace hz0 : Hid _ := hz0
  replace hz1 : Hid _ := hz1
  replace hz2 : Hid _ := hz2
  replace hown : Hid _ := hown
  replace hn3 : Hid _ := hn3
  replace h1c : Hid _ := h1c
  replace hrl : Hid _ := hrl
  replace e3 : Hid _ := e3
  replace n1 : Hid _ := n1
  replace n2 : Hid _ := n2
  clear q b1 b2 b3 n3 e1 e2 hnews
  rcases hp with rfl | ⟨rfl, rfl⟩
  · go_enter Tryd.func10, Tryd.ntmps10
    go_wp2_with (at_builtin; refine wpList_append_own_at _ rfl _ _ 23 rfl (w.heap.size + 2) 2 i0 _ 1 8 Tryd.underlying23 hi0.out hz0.out hz1.out hz2.out rfl (by decide) _ _ _ rfl hown.out ad z.length c (rowI z) rfl hrl.out hn3.out h1c.out (by unfold maxLen; omega) (by omega) (by rw [e3.out]; omega) ?_; intro v5 w5 ho5 hg5 hnil5 hloc5; have ho6 : w5.ownsRow (w.heap.size + 2) 2 1 v5 z.length (rowI z) := (by rw [Nat.zero_add] at ho5; exact ho5); obtain ⟨p5, c5, rfl, hlc5, hp5⟩ := path_row ho6; have hg6 : World.grownBy _ w5 (some (w.heap.size + 2)) := hg5; have m1 := (hg6.block w.heap.size (by rw [e3.out]; omega) (by simp)).trans n1.out; have m2 := (hg6.block (w.heap.size + 1) (by rw [e3.out]; omega) (by simp)).trans n2.out; have xf := fun j => box_free m1 j; have yf := fun j => box_free m2 j; have x0 := box_cell m1 0; have x1 := box_cell m1 1; have x2 := box_cell m1 2; have x3 := box_cell m1 3; have x4 := box_cell m1 4; have y0 := box_cell m2 0; have y1 := box_cell m2 1; have y2 := box_cell m2 2; have y3 := box_cell m2 3; have y4 := box_cell m2 4; simp only [List.getElem?_toArray, List.getElem?_cons_zero, List.getElem?_cons_succ] at x0 x1 x2 x3 x4 y0 y1 y2 y3 y4)
    have hb5 : Below w.heap.size w w5 := ⟨hg6.os.trans hb.os, hg6.tape.trans hb.tape, hg6.output.trans hb.output, Nat.le_trans hb.size hg6.size, fun i hi => (hg6.block i (by rw [e3.out]; omega) (by simp; omega)).trans (hb.block i hi)⟩
    have hbZ : Below w.heap.size w ((((((w5.setCell ⟨w.heap.size, 4, none⟩ (.slice p5 z.length c5)).setCell ⟨w.heap.size + 1, 0, none⟩ (.int .i64 k)).setCell ⟨w.heap.size + 1, 1, none⟩ (.bool b)).setCell ⟨w.heap.size + 1, 2, none⟩ (.int .i64 n)).setCell ⟨w.heap.size + 1, 3, none⟩ (.string s)).setCell ⟨w.heap.size + 1, 4, none⟩ (.slice p5 z.length c5)) :=
      below_six hb5 (Nat.le_refl _)
    have hpZ : PathAt ((((((w5.setCell ⟨w.heap.size, 4, none⟩ (.slice p5 z.length c5)).setCell ⟨w.heap.size + 1, 0, none⟩ (.int .i64 k)).setCell ⟨w.heap.size + 1, 1, none⟩ (.bool b)).setCell ⟨w.heap.size + 1, 2, none⟩ (.int .i64 n)).setCell ⟨w.heap.size + 1, 3, none⟩ (.string s)).setCell ⟨w.heap.size + 1, 4, none⟩ (.slice p5 z.length c5)) p5 z := by
      rcases hp5 with h | ⟨g, rfl, hge, hc⟩
      · exact .inl h
      · exact .inr ⟨g, 0, rfl, fun i hi => (cell_six (by omega)).trans (hc i hi)⟩
    obtain ⟨f0, f1, f2, f3, f4⟩ := six_cells (v := .slice p5 z.length c5) (v0 := .int .i64 k) (v1 := .bool b) (v2 := .int .i64 n) (v3 := .string s) (v4 := .slice p5 z.length c5) y0 y1 y2 y3 y4 _ rfl
    have hfr : ∀ j, ((((((w5.setCell ⟨w.heap.size, 4, none⟩ (.slice p5 z.length c5)).setCell ⟨w.heap.size + 1, 0, none⟩ (.int .i64 k)).setCell ⟨w.heap.size + 1, 1, none⟩ (.bool b)).setCell ⟨w.heap.size + 1, 2, none⟩ (.int .i64 n)).setCell ⟨w.heap.size + 1, 3, none⟩ (.string s)).setCell ⟨w.heap.size + 1, 4, none⟩ (.slice p5 z.length c5)).frozen? ⟨w.heap.size + 1, j, none⟩ = false := fun j => by
      simp only [World.frozen?_setCell]
      exact yf j
    clear hb5 hb hp5 hg6 hg5 ho5 ho6 hnil5 hloc5 m1 m2 x0 x1 x2 x3 x4 y0 y1 y2 y3 y4
    generalize ((((((w5.setCell ⟨w.heap.size, 4, none⟩ (.slice p5 z.length c5)).setCell ⟨w.heap.size + 1, 0, none⟩ (.int .i64 k)).setCell ⟨w.heap.size + 1, 1, none⟩ (.bool b)).setCell ⟨w.heap.size + 1, 2, none⟩ (.int .i64 n)).setCell ⟨w.heap.size + 1, 3, none⟩ (.string s)).setCell ⟨w.heap.size + 1, 4, none⟩ (.slice p5 z.length c5)) = WZ at *
    exact bodyPost_ret (results_box rfl _ rfl ⟨f0, f1, f2, f3, f4, hfr⟩) rfl ⟨p5, c5, rfl, hpZ, hlc5, hbZ⟩
  · go_enter Tryd.func10, Tryd.ntmps10
    go_wp2_with fail
    go_returns
    exact ⟨_, ⟨_, rfl⟩, .inl rfl, by go_grown⟩
set_option maxRecDepth 100000 in
set_option maxHeartbeats 2000000 in
theorem same_any (k : Int) (b : Bool) (n : Int) (s : ByteArray) (p p' : Option Addr) (l c c' : Nat) (z : List Int) (w : World) (h1 : z.length = l) (q : PathAt w p z) (q' : PathAt w p' z) (hlm : l ≤ 9223372036854775807) :
    Calls Tryd.prog 19 #[.agg #[.int .i64 k, .bool b, .int .i64 n, .string s, .slice p l c], .agg #[.int .i64 k, .bool b, .int .i64 n, .string s, .slice p' l c']] w fun e w' => e = .returned (.bool true) ∧ Below w.heap.size w w' := by
  subst h1
  have b1 := below_new w (.cells #[.int .i64 k, .bool b, .int .i64 n, .string s, .slice p z.length c] 25)
  have b2 := below_new (w.alloc (.cells #[.int .i64 k, .bool b, .int .i64 n, .string s, .slice p z.length c] 25)) (.cells #[.int .i64 k, .bool b, .int .i64 n, .string s, .slice p' z.length c'] 25)
  have hb := below_on b1 b2
  have B1 := (BoxAt.new w k b n s p z.length c rfl).below b2
  have B2 := BoxAt.new (w.alloc (.cells #[.int .i64 k, .bool b, .int .i64 n, .string s, .slice p z.length c] 25)) k b n s p' z.length c' rfl
  have e1 : (w.alloc (.cells #[.int .i64 k, .bool b, .int .i64 n, .string s, .slice p z.length c] 25)).heap.size = w.heap.size + 1 := by simp
  rw [e1] at B2
  have Q := q.below hb
  have Q' := q'.below hb
  clear b1 b2 q q' e1
  go_enter Tryd.func19, Tryd.ntmps19
  go_upto_region 1 with fail
  generalize (w.alloc (.cells #[.int .i64 k, .bool b, .int .i64 n, .string s, .slice p z.length c] 25)).alloc (.cells #[.int .i64 k, .bool b, .int .i64 n, .string s, .slice p' z.length c'] 25) = W at *
  have hW : ∃ W1, Below W.heap.size W W1 ∧ W1 = W := ⟨W, Below.refl _ _, rfl⟩
  obtain ⟨i0, i1, i2, i3, i4, i5⟩ := B1
  obtain ⟨j0, j1, j2, j3, j4, j5⟩ := B2
  have keep : ∀ {wr : World} {x j : Nat} {v : Value}, Below W.heap.size W wr → W.cell? ⟨x, j, none⟩ = some v → wr.cell? ⟨x, j, none⟩ = some v := fun hb h => (hb.cell (World.block_lt_of_cell? W _ h)).trans h
  go_wp2_with fail
  go_loopw [5] (fun i wr => ∃ t : Nat, t ≤ z.length ∧ i = .int .i64 t ∧ Below W.heap.size W wr) (fun i _ => z.length - (intOf i).toNat)
  case atStart => exact ⟨0, Nat.zero_le _, rfl, Below.refl _ _⟩
  case round =>
    obtain ⟨t, ht, rfl, hbw⟩ := hrel
    replace i0 := keep hbw i0
    replace i1 := keep hbw i1
    replace i2 := keep hbw i2
    replace i3 := keep hbw i3
    replace i4 := keep hbw i4
    replace j0 := keep hbw j0
    replace j1 := keep hbw j1
    replace j2 := keep hbw j2
    replace j3 := keep hbw j3
    replace j4 := keep hbw j4
    by_cases hlt : t < z.length
    · obtain ⟨g, o, rfl, cg⟩ := (Q.below hbw).num t hlt
      obtain ⟨g', o', rfl, cg'⟩ := (Q'.below hbw).num t hlt
      go_upto_region 6 with fail
      go_quiet (fail)
      rename_i nq
      go_wp2_with fail
      all_goals exact ⟨⟨t + 1, by omega, rfl, ⟨hbw.os, hbw.tape, hbw.output, hbw.size, hbw.block⟩⟩, by show z.length - ((t : Int) + 1).toNat < z.length - (t : Int).toNat; omega⟩
    · have ht2 : t = z.length := by omega
      subst ht2
      go_wp2_with fail
      go_returns
      exact ⟨by simp, below_on hb hbw⟩
end Go.Proofs.YtokkmjcpjjiaaaaDoor
