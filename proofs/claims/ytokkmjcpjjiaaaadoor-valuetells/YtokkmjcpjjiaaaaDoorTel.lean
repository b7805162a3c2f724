/-
  ValueTells: its own walk.
-/
import Derived.Test.YtokkmjcpjjiaaaaDoorCpy
import Derived.Test.YtokkmjcpjjiaaaaDoorHs1
import Derived.Test.YtokkmjcpjjiaaaaDoorHs2
import Derived.Deep.RegionWith
namespace Go.Proofs.YtokkmjcpjjiaaaaDoor
open Go.ChangeShapes Go.WideShapes Go.ChangeAt Go.RowKit
set_option linter.unusedSimpArgs false
set_option linter.unusedVariables false

theorem conv_len {w : World} {base : Nat} {v : Value} {zs : List Int} (h : w.ownsRow base 5 1 v zs.length (zs.map (Value.int .u8))) : (convert 28 9 v).run Tryd.prog w = .ok (.string (strOfNums zs)) w := conv_own (by rw [List.length_map]; exact h)
theorem both_cells {W : World} {x y : Nat} {k : Int} {b : Bool} {n : Int} {s : ByteArray} {p p' : Option Addr} {l c c' : Nat} (h : BoxAt W x k b n s p l c) (h' : BoxAt W y k b n s p' l c') :
    W.cell? ⟨x, 0, none⟩ = some (.int .i64 k) ∧ W.cell? ⟨x, 1, none⟩ = some (.bool b) ∧ W.cell? ⟨x, 2, none⟩ = some (.int .i64 n) ∧ W.cell? ⟨x, 3, none⟩ = some (.string s) ∧ W.cell? ⟨x, 4, none⟩ = some (.slice p l c) ∧ W.cell? ⟨y, 0, none⟩ = some (.int .i64 k) ∧ W.cell? ⟨y, 1, none⟩ = some (.bool b) ∧ W.cell? ⟨y, 2, none⟩ = some (.int .i64 n) ∧ W.cell? ⟨y, 3, none⟩ = some (.string s) ∧ W.cell? ⟨y, 4, none⟩ = some (.slice p' l c') :=
  ⟨h.c0, h.c1, h.c2, h.c3, h.c4, h'.c0, h'.c1, h'.c2, h'.c3, h'.c4⟩
theorem both_conv {W : World} {C : Prop} {x y : Nat} {k : Int} {b : Bool} {n : Int} {s : ByteArray} {p p' : Option Addr} {l c c' : Nat} (h : BoxAt W x k b n s p l c) (h' : BoxAt W y k b n s p' l c') (hv : C) :
    W.cell? ⟨x, 0, none⟩ = some (.int .i64 k) ∧ W.cell? ⟨x, 1, none⟩ = some (.bool b) ∧ W.cell? ⟨x, 2, none⟩ = some (.int .i64 n) ∧ W.cell? ⟨x, 3, none⟩ = some (.string s) ∧ W.cell? ⟨x, 4, none⟩ = some (.slice p l c) ∧ W.cell? ⟨y, 0, none⟩ = some (.int .i64 k) ∧ W.cell? ⟨y, 1, none⟩ = some (.bool b) ∧ W.cell? ⟨y, 2, none⟩ = some (.int .i64 n) ∧ W.cell? ⟨y, 3, none⟩ = some (.string s) ∧ W.cell? ⟨y, 4, none⟩ = some (.slice p' l c') ∧ C :=
  ⟨h.c0, h.c1, h.c2, h.c3, h.c4, h'.c0, h'.c1, h'.c2, h'.c3, h'.c4, hv⟩
theorem new_at {w : World} {o : Obj} {g : Nat} (h : g = w.heap.size) : (w.alloc o).heap[g]? = some o := by
  subst h
  exact heap_alloc_new w o
theorem keep_at {w w' : World} {o : Obj} {g : Nat} (hb : Below w.heap.size w w') (h : w.heap[g]? = some o) : w'.heap[g]? = some o := (hb.block g (Array.getElem?_eq_some_iff.1 h).1).trans h
theorem old_at {w : World} {o o' : Obj} {g : Nat} (h : w.heap[g]? = some o') : (w.alloc o).heap[g]? = some o' := keep_at (below_new w o) h
theorem snd_at {w : World} {o o' : Obj} : ((w.alloc o).alloc o').heap[w.heap.size + 1]? = some o' := new_at (by simp)
theorem fst_at {w : World} {o o' : Obj} : ((w.alloc o).alloc o').heap[w.heap.size]? = some o := old_at (new_at rfl)
theorem snd_atd {w : World} {o o' : Obj} : ((w.alloc o).alloc o').drew.heap[w.heap.size + 1]? = some o' := snd_at
theorem fst_atd {w : World} {o o' : Obj} : ((w.alloc o).alloc o').drew.heap[w.heap.size]? = some o := fst_at
theorem vals2 {W : World} {g : Nat} {k : Int} {b : Bool} {n : Int} {s : ByteArray} {p p' : Option Addr} {l c c' : Nat} {z : List Int} (h : W.heap[g]? = some (.cells #[.int .i64 k, .bool b, .int .i64 n, .string s, .slice p l c, .int .i64 k, .bool b, .int .i64 n, .string s, .slice p' l c'] 25)) (q : PathAt W p z) (q' : PathAt W p' z) (hs : s.size ≤ maxLen) (hl : z.length = l) :
    ValsAt W (some ⟨g, 0, none⟩) 2 (fun i => if i = 0 then ⟨k, b, n, s, p, l, c, z⟩ else ⟨k, b, n, s, p', l, c', z⟩) := by
  refine .inr ⟨g, 0, rfl, fun i hi => ?_⟩
  have e := fun j => box_cell h j
  match i, hi with
  | 0, _ => exact ⟨e 0, e 1, e 2, e 3, e 4, hs, hl, q⟩
  | 1, _ => exact ⟨e 5, e 6, e 7, e 8, e 9, hs, hl, q'⟩
/-- The number of a thing twice. -/
def hhV (k : Int) (b : Bool) (n : Int) (s : ByteArray) (l : Nat) (z : List Int) : Int := hall (fun _ => ⟨k, b, n, s, none, l, 0, z⟩) 2
theorem hash2 (k : Int) (b : Bool) (n : Int) (s : ByteArray) (p p' : Option Addr) (l c c' : Nat) (z : List Int) (W : World) (g : Nat) (h : W.heap[g]? = some (.cells #[.int .i64 k, .bool b, .int .i64 n, .string s, .slice p l c, .int .i64 k, .bool b, .int .i64 n, .string s, .slice p' l c'] 25)) (q : PathAt W p z) (q' : PathAt W p' z) (hs : s.size ≤ maxLen) (hl : z.length = l) (hT : Tabs W) :
    Calls Tryd.prog 17 #[.slice (some ⟨g, 0, none⟩) 2 2] W fun e w' => e = .returned (.int .u64 (hhV k b n s l z)) ∧ Below W.heap.size W w' := by
  have h2 := Hash_any _ 2 2 _ W (vals2 h q q' hs hl) hT (by omega)
  exact h2
theorem rhash2 (k : Int) (b : Bool) (n : Int) (s : ByteArray) (p p' : Option Addr) (l c c' : Nat) (z : List Int) (W : World) (g : Nat) (h : W.heap[g]? = some (.cells #[.int .i64 k, .bool b, .int .i64 n, .string s, .slice p l c, .int .i64 k, .bool b, .int .i64 n, .string s, .slice p' l c'] 25)) (q : PathAt W p z) (q' : PathAt W p' z) (hs : s.size ≤ maxLen) (hl : z.length = l) (hT : Tabs W) :
    Calls Tryd.prog 18 #[.slice (some ⟨g, 0, none⟩) 2 2] W fun e w' => e = .returned (.int .u64 (hhV k b n s l z)) ∧ Below W.heap.size W w' := by
  have h2 := rHash_any _ 2 2 _ W (vals2 h q q' hs hl) hT (by omega)
  exact h2
set_option maxRecDepth 100000 in
set_option maxHeartbeats 8000000 in
theorem Tells_walk (k : Int) (b : Bool) (n : Int) (s : ByteArray) (p1 : Option Addr) (l c1 : Nat) (z : List Int) (w : World) (h1 : z.length = l) (q1 : PathAt w p1 z) (hlc : l ≤ c1) (hn : -9223372036854775808 ≤ n ∧ n ≤ 9223372036854775807) (hs : s.size ≤ maxLen) (hl8 : l * 8 ≤ 140737488351232) (hT : Tabs w) (hP : P10 w) (ht : w.cell? ⟨3, 0, none⟩ = some (.int .u64 1)) :
    Calls Tryd.prog 3 #[vv k b n s p1 l c1] w fun e w' => e = .returned (.bool true) ∧ Below w.heap.size w w' := by
  unfold vv
  have hb1 := BoxAt.new w k b n s p1 l c1 rfl
  have hC := fun (W : World) (hb : Below w.heap.size w W) => copied_any k b n s p1 l c1 z W h1 (q1.below hb) hl8
  have hg0 := below_new w (.cells #[.int .i64 k, .bool b, .int .i64 n, .string s, .slice p1 l c1] 25)
  replace hC : Hid _ := hC
  go_enter Tryd.func3, Tryd.ntmps3
  go_upto_region 3 with (first
    | (go_at_call 9; refine (head_any _ (cell_keep _ ht)).mono ?_; rintro e w1 ⟨rfl, hh⟩; have B1 := hb1.below hh; have G := below_on hg0 hh; obtain ⟨i0, i1, i2, i3, i4, -⟩ := id B1)
    | (go_at_call 10; refine Calls.mono (hC.out _ G) ?_; rintro e w2 ⟨p2, c2, rfl, q2, hlc2, hx⟩; replace B1 := B1.below hx; replace G := below_on G hx))
  have bN := below_new w2 (.cells #[.int .i64 k, .bool b, .int .i64 n, .string s, .slice p2 l c2] 25)
  have B4 := BoxAt.new w2 k b n s p2 l c2 rfl
  replace B1 := B1.below bN
  have G0 := below_on G bN
  replace q2 := q2.below bN
  have q3 := q1.below G0
  replace hT := hT.below G0
  replace hP := hP.below G0
  clear bN G hC hb1 hg0 i0 i1 i2 i3 i4 q1 ht
  generalize (w2.alloc (.cells #[.int .i64 k, .bool b, .int .i64 n, .string s, .slice p2 l c2] 25)) = W3 at *
  generalize w2.heap.size = Y at *
  have hk := rgt_says k b n s l z (Lib.validD s.data.toList) h1
  have hR12 := fun (W : World) (hb : Below W3.heap.size W3 W) => Right_any k b n s p2 l c2 z (Lib.validD s.data.toList) W h1 (q2.below hb) (valid_any s hs W (hT.below hb))
  have hR13 := fun (W : World) (hb : Below W3.heap.size W3 W) => refRight_any k b n s p1 l c1 z (Lib.validD s.data.toList) W h1 (q3.below hb) (valid_any s hs W (hT.below hb))
  have hS14 := fun (W : World) (hb : Below W3.heap.size W3 W) => Show_any k b n s p2 l c2 z W h1 (q2.below hb) hlc2 hs hn (hT.below hb) (hP.below hb)
  have hS15 := fun (W : World) (hb : Below W3.heap.size W3 W) => refShow_any k b n s p1 l c1 z W h1 (q3.below hb) hlc hs hn (hT.below hb) (hP.below hb)
  have hE11 := fun (W : World) (hb : Below W3.heap.size W3 W) => Encode_any k b n s p2 l c2 z _ h1 hk W (q2.below hb) (fun w' hb' => Right_any k b n s p2 l c2 z (Lib.validD s.data.toList) w' h1 (q2.below (below_on hb hb')) (valid_any s hs w' (hT.below (below_on hb hb'))))
  have hE16 := fun (W : World) (hb : Below W3.heap.size W3 W) => refEncode_any k b n s p1 l c1 z _ h1 hk W (q3.below hb) (fun w' hb' => refRight_any k b n s p1 l c1 z (Lib.validD s.data.toList) w' h1 (q3.below (below_on hb hb')) (valid_any s hs w' (hT.below (below_on hb hb'))))
  have hM19 := fun (W : World) (hb : Below W3.heap.size W3 W) => same_any k b n s p1 p2 l c1 c2 z W h1 (q3.below hb) (q2.below hb) (by omega)
  have hH17 := fun (W : World) (g : Nat) (h : W.heap[g]? = some (.cells #[.int .i64 k, .bool b, .int .i64 n, .string s, .slice p2 l c2, .int .i64 k, .bool b, .int .i64 n, .string s, .slice p1 l c1] 25)) (hb : Below W3.heap.size W3 W) => hash2 k b n s p2 p1 l c2 c1 z W g h (q2.below hb) (q3.below hb) hs h1 (hT.below hb)
  have hH18 := fun (W : World) (g : Nat) (h : W.heap[g]? = some (.cells #[.int .i64 k, .bool b, .int .i64 n, .string s, .slice p1 l c1, .int .i64 k, .bool b, .int .i64 n, .string s, .slice p1 l c1] 25)) (hb : Below W3.heap.size W3 W) => rhash2 k b n s p1 p1 l c1 c1 z W g h (q3.below hb) (q3.below hb) hs h1 (hT.below hb)
  obtain ⟨zs, hzs⟩ := encV_ints k b n s l z (rgtB k b n s l z (Lib.validD s.data.toList))
  rw [hzs] at hE11 hE16
  clear hzs hk hT hP q2 q3
  generalize hhV k b n s l z = HV at *
  generalize S9.txt (shwT k b n s z (rgtB k b n s l z (Lib.validD s.data.toList))) = SV at *
  generalize rgtB k b n s l z (Lib.validD s.data.toList) = RV at *
  have K1 := fun (W : World) (hb : Below W3.heap.size W3 W) => B1.below hb
  have K4 := fun (W : World) (hb : Below W3.heap.size W3 W) => B4.below hb
  obtain ⟨i0, i1, i2, i3, i4, -⟩ := id B1
  obtain ⟨j0, j1, j2, j3, j4, -⟩ := id B4
  replace hR12 : Hid _ := hR12
  replace hR13 : Hid _ := hR13
  replace hS14 : Hid _ := hS14
  replace hS15 : Hid _ := hS15
  replace hE11 : Hid _ := hE11
  replace hE16 : Hid _ := hE16
  replace hM19 : Hid _ := hM19
  replace hH17 : Hid _ := hH17
  replace hH18 : Hid _ := hH18
  replace K1 : Hid _ := K1
  replace K4 : Hid _ := K4
  replace G0 : Hid _ := G0
  clear B1 B4 h1 hlc hlc2 hn hs hl8
  go_upto_region 4 with (go_at_call 11; refine Calls.mono (hE11.out _ (Below.refl _ _)) ?_; rintro e w5 ⟨v5, rfl, ho5, G⟩)
  clear i0 i1 i2 i3 i4 j0 j1 j2 j3 j4
  rw [List.length_map] at ho5
  obtain ⟨a5, c5, rfl⟩ := own_slice ho5
  go_cut [6] (fun v6 W => v6 = .bool true ∧ Below w5.heap.size w5 W)
  case first =>
    replace ho5 := own_below ho5 (Below.refl _ _).drew
    have G4 : Below w5.heap.size w5 w5.drew := (Below.refl _ _).drew
    replace G := below_on G G4
    have cv5 := conv_len ho5
    obtain ⟨i0, i1, i2, i3, i4, -⟩ := K1.out _ G
    obtain ⟨j0, j1, j2, j3, j4, -⟩ := K4.out _ G
    clear hE11 hM19 hH17 hH18
    go_region_with (first
      | (go_at_call 12; refine Calls.mono (hR12.out _ G) ?_; rintro e wx ⟨rfl, hx⟩; replace G := below_on G hx; replace G4 := below_on G4 hx; replace ho5 := own_below ho5 hx; replace cv5 := conv_len ho5; obtain ⟨i0, i1, i2, i3, i4, -⟩ := K1.out _ G; obtain ⟨j0, j1, j2, j3, j4, -⟩ := K4.out _ G; clear hx)
      | (go_at_call 13; refine Calls.mono (hR13.out _ G) ?_; rintro e wx ⟨rfl, hx⟩; replace G := below_on G hx; replace G4 := below_on G4 hx; replace ho5 := own_below ho5 hx; replace cv5 := conv_len ho5; obtain ⟨i0, i1, i2, i3, i4, -⟩ := K1.out _ G; obtain ⟨j0, j1, j2, j3, j4, -⟩ := K4.out _ G; clear hx)
      | (go_at_call 14; refine Calls.mono (hS14.out _ G) ?_; rintro e wx ⟨rfl, hx⟩; replace G := below_on G hx; replace G4 := below_on G4 hx; replace ho5 := own_below ho5 hx; replace cv5 := conv_len ho5; obtain ⟨i0, i1, i2, i3, i4, -⟩ := K1.out _ G; obtain ⟨j0, j1, j2, j3, j4, -⟩ := K4.out _ G; clear hx)
      | (go_at_call 15; refine Calls.mono (hS15.out _ G) ?_; rintro e wx ⟨rfl, hx⟩; replace G := below_on G hx; replace G4 := below_on G4 hx; replace ho5 := own_below ho5 hx; replace cv5 := conv_len ho5; obtain ⟨i0, i1, i2, i3, i4, -⟩ := K1.out _ G; obtain ⟨j0, j1, j2, j3, j4, -⟩ := K4.out _ G; clear hx)
      | (go_at_call 16; refine Calls.mono (hE16.out _ G) ?_; rintro e wx ⟨v7, rfl, ho7, hx⟩; have cv7 := conv_own ho7; replace G := below_on G hx; replace G4 := below_on G4 hx; replace ho5 := own_below ho5 hx; replace cv5 := conv_len ho5; obtain ⟨i0, i1, i2, i3, i4, -⟩ := K1.out _ G; obtain ⟨j0, j1, j2, j3, j4, -⟩ := K4.out _ G; clear hx))
    all_goals go_wp2_with fail
    all_goals go_meet
    all_goals exact ⟨by simp [Act.put], G4⟩
  case rest =>
    obtain ⟨rfl, hc4⟩ := hcut
    replace G := below_on G hc4
    replace ho5 := own_below ho5 hc4
    clear hR12 hR13 hS14 hS15
    go_upto_region 5 with fail
    go_cut [7] (fun v7 W => v7 = .bool true ∧ Below wc.heap.size wc W)
    case first =>
      clear hE11 hE16 hM19 ho5 hc4
      have G4 : Below wc.heap.size wc wc := Below.refl _ _
      obtain ⟨i0, i1, i2, i3, i4, -⟩ := K1.out _ G
      obtain ⟨j0, j1, j2, j3, j4, -⟩ := K4.out _ G
      have hS := fun (W : World) (hb : Below W3.heap.size W3 W) => both_cells (K1.out _ hb) (K4.out _ hb)
      replace hS : Hid _ := hS
      have hA1 := fun (U : World) (hb : Below W3.heap.size W3 U) => hH17.out (U.alloc (.cells #[.int .i64 k, .bool b, .int .i64 n, .string s, .slice p2 l c2, .int .i64 k, .bool b, .int .i64 n, .string s, .slice p1 l c1] 25)) U.heap.size (new_at rfl) (below_on hb (below_new _ _))
      have hA2 := fun (U : World) (hb : Below W3.heap.size W3 U) => hH17.out ((U.alloc (.cells #[.int .i64 k, .bool b, .int .i64 n, .string s, .slice p2 l c2, .int .i64 k, .bool b, .int .i64 n, .string s, .slice p1 l c1] 25)).alloc (.cells #[.int .i64 k, .bool b, .int .i64 n, .string s, .slice p1 l c1, .int .i64 k, .bool b, .int .i64 n, .string s, .slice p1 l c1] 25)) U.heap.size (old_at (new_at rfl)) (below_on (below_on hb (below_new _ _)) (below_new _ _))
      have hA3 := fun (U : World) (hb : Below W3.heap.size W3 U) => hH17.out ((U.alloc (.cells #[.int .i64 k, .bool b, .int .i64 n, .string s, .slice p1 l c1, .int .i64 k, .bool b, .int .i64 n, .string s, .slice p1 l c1] 25)).alloc (.cells #[.int .i64 k, .bool b, .int .i64 n, .string s, .slice p2 l c2, .int .i64 k, .bool b, .int .i64 n, .string s, .slice p1 l c1] 25)) (U.heap.size + 1) (new_at (by simp)) (below_on (below_on hb (below_new _ _)) (below_new _ _))
      replace hA1 : Hid _ := hA1
      replace hA2 : Hid _ := hA2
      replace hA3 : Hid _ := hA3
      have hA1d := fun (U : World) (hb : Below W3.heap.size W3 U) => hH17.out (U.alloc (.cells #[.int .i64 k, .bool b, .int .i64 n, .string s, .slice p2 l c2, .int .i64 k, .bool b, .int .i64 n, .string s, .slice p1 l c1] 25)).drew U.heap.size (new_at rfl) (below_on hb (below_new _ _)).drew
      have hA2d := fun (U : World) (hb : Below W3.heap.size W3 U) => hH17.out ((U.alloc (.cells #[.int .i64 k, .bool b, .int .i64 n, .string s, .slice p2 l c2, .int .i64 k, .bool b, .int .i64 n, .string s, .slice p1 l c1] 25)).alloc (.cells #[.int .i64 k, .bool b, .int .i64 n, .string s, .slice p1 l c1, .int .i64 k, .bool b, .int .i64 n, .string s, .slice p1 l c1] 25)).drew U.heap.size (old_at (new_at rfl)) (below_on (below_on hb (below_new _ _)) (below_new _ _)).drew
      have hA3d := fun (U : World) (hb : Below W3.heap.size W3 U) => hH17.out ((U.alloc (.cells #[.int .i64 k, .bool b, .int .i64 n, .string s, .slice p1 l c1, .int .i64 k, .bool b, .int .i64 n, .string s, .slice p1 l c1] 25)).alloc (.cells #[.int .i64 k, .bool b, .int .i64 n, .string s, .slice p2 l c2, .int .i64 k, .bool b, .int .i64 n, .string s, .slice p1 l c1] 25)).drew (U.heap.size + 1) (new_at (by simp)) (below_on (below_on hb (below_new _ _)) (below_new _ _)).drew
      replace hA1d : Hid _ := hA1d
      replace hA2d : Hid _ := hA2d
      replace hA3d : Hid _ := hA3d
      have hB1 := fun (U : World) (hb : Below W3.heap.size W3 U) => hH18.out (U.alloc (.cells #[.int .i64 k, .bool b, .int .i64 n, .string s, .slice p1 l c1, .int .i64 k, .bool b, .int .i64 n, .string s, .slice p1 l c1] 25)) U.heap.size (new_at rfl) (below_on hb (below_new _ _))
      have hB2 := fun (U : World) (hb : Below W3.heap.size W3 U) => hH18.out ((U.alloc (.cells #[.int .i64 k, .bool b, .int .i64 n, .string s, .slice p1 l c1, .int .i64 k, .bool b, .int .i64 n, .string s, .slice p1 l c1] 25)).alloc (.cells #[.int .i64 k, .bool b, .int .i64 n, .string s, .slice p2 l c2, .int .i64 k, .bool b, .int .i64 n, .string s, .slice p1 l c1] 25)) U.heap.size (old_at (new_at rfl)) (below_on (below_on hb (below_new _ _)) (below_new _ _))
      have hB3 := fun (U : World) (hb : Below W3.heap.size W3 U) => hH18.out ((U.alloc (.cells #[.int .i64 k, .bool b, .int .i64 n, .string s, .slice p2 l c2, .int .i64 k, .bool b, .int .i64 n, .string s, .slice p1 l c1] 25)).alloc (.cells #[.int .i64 k, .bool b, .int .i64 n, .string s, .slice p1 l c1, .int .i64 k, .bool b, .int .i64 n, .string s, .slice p1 l c1] 25)) (U.heap.size + 1) (new_at (by simp)) (below_on (below_on hb (below_new _ _)) (below_new _ _))
      replace hB1 : Hid _ := hB1
      replace hB2 : Hid _ := hB2
      replace hB3 : Hid _ := hB3
      have hB1d := fun (U : World) (hb : Below W3.heap.size W3 U) => hH18.out (U.alloc (.cells #[.int .i64 k, .bool b, .int .i64 n, .string s, .slice p1 l c1, .int .i64 k, .bool b, .int .i64 n, .string s, .slice p1 l c1] 25)).drew U.heap.size (new_at rfl) (below_on hb (below_new _ _)).drew
      have hB2d := fun (U : World) (hb : Below W3.heap.size W3 U) => hH18.out ((U.alloc (.cells #[.int .i64 k, .bool b, .int .i64 n, .string s, .slice p1 l c1, .int .i64 k, .bool b, .int .i64 n, .string s, .slice p1 l c1] 25)).alloc (.cells #[.int .i64 k, .bool b, .int .i64 n, .string s, .slice p2 l c2, .int .i64 k, .bool b, .int .i64 n, .string s, .slice p1 l c1] 25)).drew U.heap.size (old_at (new_at rfl)) (below_on (below_on hb (below_new _ _)) (below_new _ _)).drew
      have hB3d := fun (U : World) (hb : Below W3.heap.size W3 U) => hH18.out ((U.alloc (.cells #[.int .i64 k, .bool b, .int .i64 n, .string s, .slice p2 l c2, .int .i64 k, .bool b, .int .i64 n, .string s, .slice p1 l c1] 25)).alloc (.cells #[.int .i64 k, .bool b, .int .i64 n, .string s, .slice p1 l c1, .int .i64 k, .bool b, .int .i64 n, .string s, .slice p1 l c1] 25)).drew (U.heap.size + 1) (new_at (by simp)) (below_on (below_on hb (below_new _ _)) (below_new _ _)).drew
      replace hB1d : Hid _ := hB1d
      replace hB2d : Hid _ := hB2d
      replace hB3d : Hid _ := hB3d
      go_region_held3 (fun w' => w'.cell? ⟨w.heap.size, 0, none⟩ = some (.int .i64 k) ∧ w'.cell? ⟨w.heap.size, 1, none⟩ = some (.bool b) ∧ w'.cell? ⟨w.heap.size, 2, none⟩ = some (.int .i64 n) ∧ w'.cell? ⟨w.heap.size, 3, none⟩ = some (.string s) ∧ w'.cell? ⟨w.heap.size, 4, none⟩ = some (.slice p1 l c1) ∧ w'.cell? ⟨Y, 0, none⟩ = some (.int .i64 k) ∧ w'.cell? ⟨Y, 1, none⟩ = some (.bool b) ∧ w'.cell? ⟨Y, 2, none⟩ = some (.int .i64 n) ∧ w'.cell? ⟨Y, 3, none⟩ = some (.string s) ∧ w'.cell? ⟨Y, 4, none⟩ = some (.slice p2 l c2))
        (exact hS.out _ (by first | exact G | exact below_on G (below_new _ _) | exact below_on (below_on G (below_new _ _)) (below_new _ _) | exact Below.drew G | exact Below.drew (below_on G (below_new _ _)) | exact Below.drew (below_on (below_on G (below_new _ _)) (below_new _ _))))
        (first
        | (go_at_call 17; first
            | ((with_reducible refine Calls.mono (hA1.out _ G) ?_); rintro e wx ⟨rfl, hx⟩; replace G := below_on (below_on G (below_new _ _)) hx; replace G4 := below_on (below_on G4 (below_new _ _)) hx; obtain ⟨i0, i1, i2, i3, i4, -⟩ := K1.out _ G; obtain ⟨j0, j1, j2, j3, j4, -⟩ := K4.out _ G)
            | ((with_reducible refine Calls.mono (hA2.out _ G) ?_); rintro e wx ⟨rfl, hx⟩; have hq := keep_at hx snd_at; replace G := below_on (below_on (below_on G (below_new _ _)) (below_new _ _)) hx; replace G4 := below_on (below_on (below_on G4 (below_new _ _)) (below_new _ _)) hx; obtain ⟨i0, i1, i2, i3, i4, -⟩ := K1.out _ G; obtain ⟨j0, j1, j2, j3, j4, -⟩ := K4.out _ G)
            | ((with_reducible refine Calls.mono (hA3.out _ G) ?_); rintro e wx ⟨rfl, hx⟩; have hq := keep_at hx fst_at; replace G := below_on (below_on (below_on G (below_new _ _)) (below_new _ _)) hx; replace G4 := below_on (below_on (below_on G4 (below_new _ _)) (below_new _ _)) hx; obtain ⟨i0, i1, i2, i3, i4, -⟩ := K1.out _ G; obtain ⟨j0, j1, j2, j3, j4, -⟩ := K4.out _ G)
            | ((with_reducible refine Calls.mono (hA1d.out _ G) ?_); rintro e wx ⟨rfl, hx⟩; replace G := below_on (Below.drew (below_on G (below_new _ _))) hx; replace G4 := below_on (Below.drew (below_on G4 (below_new _ _))) hx; obtain ⟨i0, i1, i2, i3, i4, -⟩ := K1.out _ G; obtain ⟨j0, j1, j2, j3, j4, -⟩ := K4.out _ G)
            | ((with_reducible refine Calls.mono (hA2d.out _ G) ?_); rintro e wx ⟨rfl, hx⟩; have hq := keep_at hx snd_atd; replace G := below_on (Below.drew (below_on (below_on G (below_new _ _)) (below_new _ _))) hx; replace G4 := below_on (Below.drew (below_on (below_on G4 (below_new _ _)) (below_new _ _))) hx; obtain ⟨i0, i1, i2, i3, i4, -⟩ := K1.out _ G; obtain ⟨j0, j1, j2, j3, j4, -⟩ := K4.out _ G)
            | ((with_reducible refine Calls.mono (hA3d.out _ G) ?_); rintro e wx ⟨rfl, hx⟩; have hq := keep_at hx fst_atd; replace G := below_on (Below.drew (below_on (below_on G (below_new _ _)) (below_new _ _))) hx; replace G4 := below_on (Below.drew (below_on (below_on G4 (below_new _ _)) (below_new _ _))) hx; obtain ⟨i0, i1, i2, i3, i4, -⟩ := K1.out _ G; obtain ⟨j0, j1, j2, j3, j4, -⟩ := K4.out _ G)
            | ((with_reducible refine Calls.mono (hH17.out _ _ hq G) ?_); rintro e wx ⟨rfl, hx⟩; replace G := below_on G hx; replace G4 := below_on G4 hx; obtain ⟨i0, i1, i2, i3, i4, -⟩ := K1.out _ G; obtain ⟨j0, j1, j2, j3, j4, -⟩ := K4.out _ G))
        | (go_at_call 18; first
            | ((with_reducible refine Calls.mono (hB1.out _ G) ?_); rintro e wx ⟨rfl, hx⟩; replace G := below_on (below_on G (below_new _ _)) hx; replace G4 := below_on (below_on G4 (below_new _ _)) hx; obtain ⟨i0, i1, i2, i3, i4, -⟩ := K1.out _ G; obtain ⟨j0, j1, j2, j3, j4, -⟩ := K4.out _ G)
            | ((with_reducible refine Calls.mono (hB2.out _ G) ?_); rintro e wx ⟨rfl, hx⟩; have hq := keep_at hx snd_at; replace G := below_on (below_on (below_on G (below_new _ _)) (below_new _ _)) hx; replace G4 := below_on (below_on (below_on G4 (below_new _ _)) (below_new _ _)) hx; obtain ⟨i0, i1, i2, i3, i4, -⟩ := K1.out _ G; obtain ⟨j0, j1, j2, j3, j4, -⟩ := K4.out _ G)
            | ((with_reducible refine Calls.mono (hB3.out _ G) ?_); rintro e wx ⟨rfl, hx⟩; have hq := keep_at hx fst_at; replace G := below_on (below_on (below_on G (below_new _ _)) (below_new _ _)) hx; replace G4 := below_on (below_on (below_on G4 (below_new _ _)) (below_new _ _)) hx; obtain ⟨i0, i1, i2, i3, i4, -⟩ := K1.out _ G; obtain ⟨j0, j1, j2, j3, j4, -⟩ := K4.out _ G)
            | ((with_reducible refine Calls.mono (hB1d.out _ G) ?_); rintro e wx ⟨rfl, hx⟩; replace G := below_on (Below.drew (below_on G (below_new _ _))) hx; replace G4 := below_on (Below.drew (below_on G4 (below_new _ _))) hx; obtain ⟨i0, i1, i2, i3, i4, -⟩ := K1.out _ G; obtain ⟨j0, j1, j2, j3, j4, -⟩ := K4.out _ G)
            | ((with_reducible refine Calls.mono (hB2d.out _ G) ?_); rintro e wx ⟨rfl, hx⟩; have hq := keep_at hx snd_atd; replace G := below_on (Below.drew (below_on (below_on G (below_new _ _)) (below_new _ _))) hx; replace G4 := below_on (Below.drew (below_on (below_on G4 (below_new _ _)) (below_new _ _))) hx; obtain ⟨i0, i1, i2, i3, i4, -⟩ := K1.out _ G; obtain ⟨j0, j1, j2, j3, j4, -⟩ := K4.out _ G)
            | ((with_reducible refine Calls.mono (hB3d.out _ G) ?_); rintro e wx ⟨rfl, hx⟩; have hq := keep_at hx fst_atd; replace G := below_on (Below.drew (below_on (below_on G (below_new _ _)) (below_new _ _))) hx; replace G4 := below_on (Below.drew (below_on (below_on G4 (below_new _ _)) (below_new _ _))) hx; obtain ⟨i0, i1, i2, i3, i4, -⟩ := K1.out _ G; obtain ⟨j0, j1, j2, j3, j4, -⟩ := K4.out _ G)
            | ((with_reducible refine Calls.mono (hH18.out _ _ hq G) ?_); rintro e wx ⟨rfl, hx⟩; replace G := below_on G hx; replace G4 := below_on G4 hx; obtain ⟨i0, i1, i2, i3, i4, -⟩ := K1.out _ G; obtain ⟨j0, j1, j2, j3, j4, -⟩ := K4.out _ G)))
      all_goals go_wp2_with fail
      all_goals go_meet
      all_goals exact ⟨by simp, G4⟩
    case rest =>
      obtain ⟨rfl, hc7⟩ := hcut
      replace G := below_on G hc7
      replace ho5 := own_below ho5 hc7
      clear hH17 hH18 hc4 hc7
      have hrow : ∀ j, j < zs.length → ∃ g zz, a5 = some ⟨g, 0, none⟩ ∧ W3.heap.size ≤ g ∧ wc.cell? ⟨g, j, none⟩ = some (.int .u8 zz) ∧ wc.frozen? ⟨g, j, none⟩ = false := fun j hj => by
        obtain ⟨g, cap, e, hc, hf, _, hge⟩ := own_at ho5 j hj
        cases e
        exact ⟨g, zs[j], rfl, hge, hc.trans (by simp [List.getElem?_eq_getElem hj]), hf j⟩
      have hzl := own_fits ho5
      clear ho5
      go_wp2_with fail
      go_loopw [8] (fun i wr => ∃ t : Nat, t ≤ zs.length ∧ i = .int .i64 t ∧ (∀ j, j < zs.length → ∃ g zz, a5 = some ⟨g, 0, none⟩ ∧ W3.heap.size ≤ g ∧ wr.cell? ⟨g, j, none⟩ = some (.int .u8 zz) ∧ wr.frozen? ⟨g, j, none⟩ = false) ∧ Below W3.heap.size W3 wr) (fun i _ => zs.length - (intOf i).toNat)
      case atStart => exact ⟨0, Nat.zero_le _, rfl, hrow, G⟩
      case round =>
        obtain ⟨t, ht, rfl, hr, hbr⟩ := hrel
        by_cases hlt : t < zs.length
        · obtain ⟨g, zz, e, hge, hc, hf⟩ := hr t hlt
          subst e
          replace hr : Hid (∀ j, j < zs.length → ∃ g' zz, some (⟨g, 0, none⟩ : Addr) = some ⟨g', 0, none⟩ ∧ W3.heap.size ≤ g' ∧ wr.cell? ⟨g', j, none⟩ = some (.int .u8 zz) ∧ wr.frozen? ⟨g', j, none⟩ = false) := hr
          go_wp2_with fail
          refine ⟨⟨t + 1, by omega, rfl, fun j hj => ?_, below_set hbr hge⟩, by show zs.length - ((t : Int) + 1).toNat < zs.length - (t : Int).toNat; omega⟩
          obtain ⟨g', zz', e', hge', hc', hf'⟩ := hr.out j hj
          cases e'
          by_cases hjt : j = t
          · subst hjt
            exact ⟨g, _, rfl, hge, set_same hc, (World.frozen?_setCell _ _ _ _).trans hf⟩
          · exact ⟨g, zz', rfl, hge, (set_at _ _ _ (fun e => hjt e.symm)).trans hc', (World.frozen?_setCell _ _ _ _).trans hf'⟩
        · have ht2 : t = zs.length := by omega
          subst ht2
          clear hr hrow G
          go_upto_region 10 with fail
          have G : Below W3.heap.size W3 wr.drew := hbr.drew
          obtain ⟨i0, i1, i2, i3, i4, -⟩ := K1.out _ G
          obtain ⟨j0, j1, j2, j3, j4, -⟩ := K4.out _ G
          go_region_with (first
            | (go_at_call 19; refine Calls.mono (hM19.out _ G) ?_; rintro e wx ⟨rfl, hx⟩; replace G := below_on G hx; obtain ⟨i0, i1, i2, i3, i4, -⟩ := K1.out _ G; obtain ⟨j0, j1, j2, j3, j4, -⟩ := K4.out _ G; clear hx)
            | (go_at_call 11; refine Calls.mono (hE11.out _ G) ?_; rintro e wx ⟨v8, rfl, ho8, hx⟩; have cv8 := conv_own ho8; (try (have cv9 := conv_own (own_below ho9 hx))); replace G := below_on G hx; obtain ⟨i0, i1, i2, i3, i4, -⟩ := K1.out _ G; obtain ⟨j0, j1, j2, j3, j4, -⟩ := K4.out _ G; clear hx)
            | (go_at_call 16; refine Calls.mono (hE16.out _ G) ?_; rintro e wx ⟨v9, rfl, ho9, hx⟩; have cv9 := conv_own ho9; (try (have cv8 := conv_own (own_below ho8 hx))); replace G := below_on G hx; obtain ⟨i0, i1, i2, i3, i4, -⟩ := K1.out _ G; obtain ⟨j0, j1, j2, j3, j4, -⟩ := K4.out _ G; clear hx))
          all_goals go_wp2_with fail
          all_goals go_returns
          all_goals exact ⟨by simp [Act.put], below_on G0.out G⟩
end Go.Proofs.YtokkmjcpjjiaaaaDoor
