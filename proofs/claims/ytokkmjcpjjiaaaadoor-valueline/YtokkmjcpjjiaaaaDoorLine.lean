/-
  ValueLine: its own walk.
-/
import Derived.Test.YtokkmjcpjjiaaaaDoorAlk
import Derived.Test.YtokkmjcpjjiaaaaDoorTbs
import Derived.Test.YtokkmjcpjjiaaaaDoorOrders
import Derived.Deep.RegionWith
import Derived.Deep.DeepCutAuto
import Derived.Lib.QuietBelow
import Derived.BigQuiet
import Derived.WideShapes
namespace Go.Proofs.YtokkmjcpjjiaaaaDoor
open Go.RowKit Go.Sort
set_option linter.unusedSimpArgs false
set_option linter.unusedVariables false

theorem box_undrew {w : World} {x : Nat} {k : Int} {b : Bool} {n : Int} {s : ByteArray} {p : Option Addr} {l c : Nat} (h : BoxAt w.drew x k b n s p l c) : BoxAt w x k b n s p l c := ⟨h.c0, h.c1, h.c2, h.c3, h.c4, h.fr⟩
theorem ints_inj : ∀ {x y : List Int}, x.map (Value.int .u8) = y.map (Value.int .u8) → x = y := by
  intro x
  induction x with
  | nil => intro y h; cases y with
    | nil => rfl
    | cons b y => simp at h
  | cons a x ih => intro y h; cases y with
    | nil => simp at h
    | cons b y =>
      simp only [List.map_cons, List.cons.injEq, Value.int.injEq, true_and] at h
      rw [h.1, ih h.2]
theorem line_last (ab : Int) (t1 t2 : ByteArray) (h : ab = 0 ↔ t1 = t2) : (ab == 0) = (t1.toList == t2.toList) := by
  rw [ByteArray.toList_eq, ByteArray.toList_eq]
  by_cases e : ab = 0
  · rw [h.1 e]
    simp [e]
  · have e2 : ¬ t1 = t2 := fun q => e (h.2 q)
    have e3 : ¬ t1.data.toList = t2.data.toList := fun q => e2 (WideShapes.bytes_inj q)
    rw [show (ab == 0) = false by simpa using e, show (t1.data.toList == t2.data.toList) = false by simpa using e3]
theorem line_on (ab bc ac : Int) (h : Ln ab bc ac) (h1 : ab = -1 ∨ ab = 0 ∨ ab = 1) (h2 : bc = -1 ∨ bc = 0 ∨ bc = 1) (h3 : ac = -1 ∨ ac = 0 ∨ ac = 1) :
    (ab = 1) ∨ (ab = -1 ∧ bc = 1) ∨ (ab = 0 ∧ bc = 1) ∨ (ab = 0 ∧ bc = 0 ∧ ac = 0) ∨ (ab = -1 ∧ bc = 0 ∧ ac = -1) ∨ (ab = 0 ∧ bc = -1 ∧ ac = -1) ∨ (ab = -1 ∧ bc = -1 ∧ ac = -1) := by
  unfold Ln at h
  rcases h1 with rfl | rfl | rfl <;> rcases h2 with rfl | rfl | rfl <;> rcases h3 with rfl | rfl | rfl <;> simp at h ⊢

set_option maxRecDepth 100000 in
set_option maxHeartbeats 20000000 in
theorem Line_walk (k1 : Int) (b1 : Bool) (n1 : Int) (s1 : ByteArray) (p1 : Option Addr) (l1 c1 : Nat) (z1 : List Int) (k2 : Int) (b2 : Bool) (n2 : Int) (s2 : ByteArray) (p2 : Option Addr) (l2 c2 : Nat) (z2 : List Int) (k3 : Int) (b3 : Bool) (n3 : Int) (s3 : ByteArray) (p3 : Option Addr) (l3 c3 : Nat) (z3 : List Int) (w : World) (h1 : z1.length = l1) (h2 : z2.length = l2) (h3 : z3.length = l3) (q1 : PathAt w p1 z1) (q2 : PathAt w p2 z2) (q3 : PathAt w p3 z3) (m1 : l1 ≤ maxLen) (m2 : l2 ≤ maxLen) (m3 : l3 ≤ maxLen) (hs1 : s1.size ≤ maxLen) (hs2 : s2.size ≤ maxLen)
    (N1 : -9223372036854775808 ≤ n1 ∧ n1 ≤ 9223372036854775807) (N2 : -9223372036854775808 ≤ n2 ∧ n2 ≤ 9223372036854775807) (Z1 : ∀ z ∈ z1, -9223372036854775808 ≤ z ∧ z ≤ 9223372036854775807) (Z2 : ∀ z ∈ z2, -9223372036854775808 ≤ z ∧ z ≤ 9223372036854775807) (hT : Tabs w) (ht : w.cell? ⟨3, 0, none⟩ = some (.int .u64 1)) :
    Calls Tryd.prog 7 #[vv k1 b1 n1 s1 p1 l1 c1, vv k2 b2 n2 s2 p2 l2 c2, vv k3 b3 n3 s3 p3 l3 c3] w fun e w' => e = .returned (.bool true) ∧ Below w.heap.size w w' := by
  have hAB := fun w' (g : Below w.heap.size w w') => Order_any k1 b1 n1 s1 p1 l1 c1 z1 k2 b2 n2 s2 p2 l2 c2 z2 w' h1 h2 (q1.below g) (q2.below g) m1 m2
  have hBC := fun w' (g : Below w.heap.size w w') => Order_any k2 b2 n2 s2 p2 l2 c2 z2 k3 b3 n3 s3 p3 l3 c3 z3 w' h2 h3 (q2.below g) (q3.below g) m2 m3
  have hAC := fun w' (g : Below w.heap.size w w') => Order_any k1 b1 n1 s1 p1 l1 c1 z1 k3 b3 n3 s3 p3 l3 c3 z3 w' h1 h3 (q1.below g) (q3.below g) m1 m3
  have hBA := fun w' (g : Below w.heap.size w w') => Order_any k2 b2 n2 s2 p2 l2 c2 z2 k1 b1 n1 s1 p1 l1 c1 z1 w' h2 h1 (q2.below g) (q1.below g) m2 m1
  have hAA := fun w' (g : Below w.heap.size w w') => Order_any k1 b1 n1 s1 p1 l1 c1 z1 k1 b1 n1 s1 p1 l1 c1 z1 w' h1 h1 (q1.below g) (q1.below g) m1 m1
  rw [ordV_neg k1 b1 n1 s1 z1 k2 b2 n2 s2 z2] at hBA
  rw [ordV_self] at hAA
  have hln := ordV_ln k1 b1 n1 s1 z1 k2 b2 n2 s2 z2 k3 b3 n3 s3 z3
  have tAB := ordV_three k1 b1 n1 s1 z1 k2 b2 n2 s2 z2
  have tBC := ordV_three k2 b2 n2 s2 z2 k3 b3 n3 s3 z3
  have tAC := ordV_three k1 b1 n1 s1 z1 k3 b3 n3 s3 z3
  have sA := rgt_says k1 b1 n1 s1 l1 z1 (Lib.validD s1.data.toList) h1
  have sB := rgt_says k2 b2 n2 s2 l2 z2 (Lib.validD s2.data.toList) h2
  have hRA := fun w' (g : Below w.heap.size w w') => Right_any k1 b1 n1 s1 p1 l1 c1 z1 (Lib.validD s1.data.toList) w' h1 (q1.below g) (valid_any s1 hs1 w' (Tabs.below hT g))
  have hRB := fun w' (g : Below w.heap.size w w') => Right_any k2 b2 n2 s2 p2 l2 c2 z2 (Lib.validD s2.data.toList) w' h2 (q2.below g) (valid_any s2 hs2 w' (Tabs.below hT g))
  have hEA := fun w' (g : Below w.heap.size w w') => Encode_any k1 b1 n1 s1 p1 l1 c1 z1 _ h1 sA w' (q1.below g) (fun w'' b => hRA w'' (below_on g b))
  have hEB := fun w' (g : Below w.heap.size w w') => Encode_any k2 b2 n2 s2 p2 l2 c2 z2 _ h2 sB w' (q2.below g) (fun w'' b => hRB w'' (below_on g b))
  have hal := fun K => enc_alike k1 b1 n1 s1 z1 k2 b2 n2 s2 z2 K N1 N2 Z1 Z2
  have nA := fun K L => enc_nums k1 b1 n1 s1 z1 K L
  have nB := fun K L => enc_nums k2 b2 n2 s2 z2 K L
  rw [h1] at hal nA
  rw [h2] at hal nB
  generalize ordV k1 b1 n1 s1 z1 k2 b2 n2 s2 z2 = ab at *
  generalize ordV k2 b2 n2 s2 z2 k3 b3 n3 s3 z3 = bc at *
  generalize ordV k1 b1 n1 s1 z1 k3 b3 n3 s3 z3 = ac at *
  generalize rgtB k1 b1 n1 s1 l1 z1 (Lib.validD s1.data.toList) = rA at *
  generalize rgtB k2 b2 n2 s2 l2 z2 (Lib.validD s2.data.toList) = rB at *
  have hon := line_on ab bc ac hln tAB tBC tAC
  have gAB := fun w => sign_any ab tAB w
  have gBC := fun w => sign_any bc tBC w
  have gAC := fun w => sign_any ac tAC w
  have gBA := fun w => sign_any (-ab) (by omega) w
  have bAB : -1 ≤ ab ∧ ab ≤ 1 := by omega
  obtain ⟨bl, bh⟩ := bAB
  have hHd := head_any
  unfold vv at *
  have hb1 := ((BoxAt.new w k1 b1 n1 s1 p1 l1 c1 rfl).alloc (.cells #[.int .i64 k2, .bool b2, .int .i64 n2, .string s2, .slice p2 l2 c2] 25)).alloc (.cells #[.int .i64 k3, .bool b3, .int .i64 n3, .string s3, .slice p3 l3 c3] 25)
  have hb2 := (BoxAt.new (w.alloc (.cells #[.int .i64 k1, .bool b1, .int .i64 n1, .string s1, .slice p1 l1 c1] 25)) k2 b2 n2 s2 p2 l2 c2 (x := w.heap.size + 1) (by simp)).alloc (.cells #[.int .i64 k3, .bool b3, .int .i64 n3, .string s3, .slice p3 l3 c3] 25)
  have hb3 := BoxAt.new ((w.alloc (.cells #[.int .i64 k1, .bool b1, .int .i64 n1, .string s1, .slice p1 l1 c1] 25)).alloc (.cells #[.int .i64 k2, .bool b2, .int .i64 n2, .string s2, .slice p2 l2 c2] 25)) k3 b3 n3 s3 p3 l3 c3 (x := w.heap.size + 1 + 1) (by simp)
  have hg0 := below_on (below_on (below_new w (.cells #[.int .i64 k1, .bool b1, .int .i64 n1, .string s1, .slice p1 l1 c1] 25)) (below_new _ (.cells #[.int .i64 k2, .bool b2, .int .i64 n2, .string s2, .slice p2 l2 c2] 25))) (below_new _ (.cells #[.int .i64 k3, .bool b3, .int .i64 n3, .string s3, .slice p3 l3 c3] 25))
  replace hAB : Hid _ := hAB
  replace hBC : Hid _ := hBC
  replace hAC : Hid _ := hAC
  replace hBA : Hid _ := hBA
  replace hAA : Hid _ := hAA
  replace hRA : Hid _ := hRA
  replace hRB : Hid _ := hRB
  replace hEA : Hid _ := hEA
  replace hEB : Hid _ := hEB
  replace hal : Hid _ := hal
  replace nA : Hid _ := nA
  replace nB : Hid _ := nB
  replace sA : Hid _ := sA
  replace sB : Hid _ := sB
  replace hon : Hid _ := hon
  replace gAB : Hid _ := gAB
  replace gBC : Hid _ := gBC
  replace gAC : Hid _ := gAC
  replace gBA : Hid _ := gBA
  clear hln tAB tBC tAC q1 q2 q3 m1 m2 m3 h1 h2 h3 hs1 hs2 N1 N2 Z1 Z2 hT
  go_enter Tryd.func7, Tryd.ntmps7
  go_upto_region 6 with (first
    | (go_at_call 9; refine (head_any _ (cell_keep _ (cell_keep _ (cell_keep _ ht)))).mono ?_; rintro e w1 ⟨rfl, hh⟩; have B1 := hb1.below hh; have B2 := hb2.below hh; have B3 := hb3.below hh; have G := below_on hg0 hh; have D1 := B1; have D2 := B2; have D3 := B3; obtain ⟨i0, i1, i2, i3, i4, -⟩ := D1; obtain ⟨j0, j1, j2, j3, j4, -⟩ := D2; obtain ⟨y0, y1, y2, y3, y4, -⟩ := D3)
    | (go_at_call 21; (first | (with_reducible refine Calls.mono (hAB.out _ G) ?_) | (with_reducible refine Calls.mono (hBC.out _ G) ?_) | (with_reducible refine Calls.mono (hAC.out _ G) ?_) | (with_reducible refine Calls.mono (hBA.out _ G) ?_) | (with_reducible refine Calls.mono (hAA.out _ G) ?_)); rintro e wx ⟨rfl, hx⟩; replace B1 := B1.below hx; replace B2 := B2.below hx; replace B3 := B3.below hx; replace G := below_on G hx; clear hx; have D1 := B1; have D2 := B2; have D3 := B3; obtain ⟨i0, i1, i2, i3, i4, -⟩ := D1; obtain ⟨j0, j1, j2, j3, j4, -⟩ := D2; obtain ⟨y0, y1, y2, y3, y4, -⟩ := D3)
    | (go_at_call 20; (first | (with_reducible refine Calls.mono (gAB.out _) ?_) | (with_reducible refine Calls.mono (gBC.out _) ?_) | (with_reducible refine Calls.mono (gAC.out _) ?_) | (with_reducible refine Calls.mono (gBA.out _) ?_)); rintro e wy ⟨rfl, hwy⟩; subst hwy))
  clear hAB hBC hAC hBA hAA gAB gBC gAC gBA hHd ht hb1 hb2 hb3 hg0
  go_cut [12] (fun v12 w' => v12 = .bool true ∧ w' = wx)
  case first =>
    clear hRA hRB hEA hEB hal nA nB sA sB
    rcases hon.out with rfl | ⟨rfl, rfl⟩ | ⟨rfl, rfl⟩ | ⟨rfl, rfl, rfl⟩ | ⟨rfl, rfl, rfl⟩ | ⟨rfl, rfl, rfl⟩ | ⟨rfl, rfl, rfl⟩
    all_goals clear hon
    all_goals go_wp2_with fail
    all_goals go_meet
    all_goals exact ⟨rfl, rfl⟩
  case rest =>
    obtain ⟨rfl, rfl⟩ := hcut
    clear hon
    go_upto_region 7 with fail
    go_cut [13] (fun v13 w' => v13 = .bool true ∧ Below w.heap.size w w')
    case first =>
      cases hrA : rA with
      | false =>
        rw [hrA] at hRA
        have cR : Hid _ := fun d os => Calls.regrown_of (hRA.out (grow (redrawn wc d) os) (below_on G (below_regrown wc d os)))
        have e0 := cell_regrown i0
        have e1 := cell_regrown i1
        have e2 := cell_regrown i2
        have e3 := cell_regrown i3
        have e4 := cell_regrown i4
        clear i0 i1 i2 i3 i4 j0 j1 j2 j3 j4 y0 y1 y2 y3 y4 B1 B2 B3 hEA hEB sA sB hal nA nB
        refine wp_region_quiet_below (by kernel_rfl) (by kernel_rfl) ?_
        repeat (first | go_big_quiet_step (exact cR.out _ _) | quiet_step (exact cR.out _ _))
        refine wpQuiet_nil ?_
        intro _ hw'
        obtain ⟨⟨dq, osq⟩, hw''⟩ := hw'
        subst hw''
        go_wp2_with fail
        go_meet
        exact ⟨rfl, below_on G (below_regrown _ _ _)⟩
      | true =>
        rw [hrA] at hRA hEA sA
        cases hrB : rB with
        | false =>
          rw [hrB] at hRB
          have cR : Hid _ := fun d os => Calls.regrown_of (hRA.out (grow (redrawn wc d) os) (below_on G (below_regrown wc d os)))
          have cS : Hid _ := fun d os => Calls.regrown_of (hRB.out (grow (redrawn wc d) os) (below_on G (below_regrown wc d os)))
          have e0 := cell_regrown i0
          have e1 := cell_regrown i1
          have e2 := cell_regrown i2
          have e3 := cell_regrown i3
          have e4 := cell_regrown i4
          have f0 := cell_regrown j0
          have f1 := cell_regrown j1
          have f2 := cell_regrown j2
          have f3 := cell_regrown j3
          have f4 := cell_regrown j4
          clear i0 i1 i2 i3 i4 j0 j1 j2 j3 j4 y0 y1 y2 y3 y4 B1 B2 B3 hEA hEB sA sB hal nA nB
          refine wp_region_quiet_below (by kernel_rfl) (by kernel_rfl) ?_
          repeat (first | go_big_quiet_step (first | exact cR.out _ _ | exact cS.out _ _) | quiet_step (first | exact cR.out _ _ | exact cS.out _ _))
          refine wpQuiet_nil ?_
          intro _ hw'
          obtain ⟨⟨dq, osq⟩, hw''⟩ := hw'
          subst hw''
          go_wp2_with fail
          go_meet
          exact ⟨rfl, below_on G (below_regrown _ _ _)⟩
        | true =>
          rw [hrB] at hRB hEB sB
          obtain ⟨KA, -, LA⟩ := sA.out rfl
          obtain ⟨KB, -, LB⟩ := sB.out rfl
          obtain ⟨u1, x1, I1⟩ := nA.out KA (fun e => (LA e).2)
          obtain ⟨u2, x2, I2⟩ := nB.out KB (fun e => (LB e).2)
          have hst : ab = 0 ↔ strOfNums u1 = strOfNums u2 := by
            rw [hal.out KA, x1, x2]
            constructor
            · intro h
              rw [ints_inj h]
            · intro h
              rw [nums_inj I1 I2 h]
          rw [x1] at hEA
          rw [x2] at hEB
          replace hst : Hid _ := hst
          clear sA sB nA nB hal KA KB LA LB I1 I2 x1 x2 B3
          replace B1 := B1.below (w' := World.drew _) (Below.refl _ _).drew
          replace B2 := B2.below (w' := World.drew _) (Below.refl _ _).drew
          replace G := G.drew
          clear i0 i1 i2 i3 i4 j0 j1 j2 j3 j4
          obtain ⟨i0, i1, i2, i3, i4, -⟩ := id B1
          obtain ⟨j0, j1, j2, j3, j4, -⟩ := id B2
          go_region_with (first
            | (go_at_call 12; (first | (with_reducible refine Calls.mono (hRA.out _ G) ?_) | (with_reducible refine Calls.mono (hRB.out _ G) ?_)); rintro e w2 ⟨rfl, hx⟩; replace B1 := B1.below hx; replace B2 := B2.below hx; replace G := below_on G hx; have D1 := B1; have D2 := B2; obtain ⟨i0, i1, i2, i3, i4, -⟩ := D1; obtain ⟨j0, j1, j2, j3, j4, -⟩ := D2)
            | (go_at_call 11; (first | (with_reducible refine Calls.mono (hEA.out _ G) ?_; rintro e wA ⟨vA, rfl, oA, hx⟩; have cA := conv_own oA; (try (have cB2 := conv_own (own_below oB hx)))) | (with_reducible refine Calls.mono (hEB.out _ G) ?_; rintro e wB ⟨vB, rfl, oB, hx⟩; have cB := conv_own oB; (try (have cA2 := conv_own (own_below oA hx))))); replace B1 := B1.below hx; replace B2 := B2.below hx; replace G := below_on G hx; have D1 := B1; have D2 := B2; obtain ⟨i0, i1, i2, i3, i4, -⟩ := D1; obtain ⟨j0, j1, j2, j3, j4, -⟩ := D2))
          all_goals go_wp2_with fail
          all_goals go_meet
          all_goals refine ⟨?_, G⟩
          all_goals
            have h := line_last ab _ _ hst.out
            first | (simp [Act.put]; exact h) | (simp [Act.put, h]; done)
    case rest =>
      obtain ⟨rfl, hG⟩ := hcut
      go_wp2_with fail
      go_returns
      exact ⟨rfl, hG⟩
end Go.Proofs.YtokkmjcpjjiaaaaDoor
