/-
  The law of patterns: the walk.
  SyntaxPatterns returns true for whatever names, way and numbers it is handed; no conditions.
-/
import Derived.Test.YtefenbonjepjgaaGreatDoorTbs
import Derived.Test.YtefenbonjepjgaaGreatDoorPtp
import Derived.BigQuiet
namespace Go.Proofs.YtefenbonjepjgaaGreatDoor
open Go.ChangeShapes Go.WideShapes Go.ChangeAt Go.RowKit
set_option linter.unusedSimpArgs false
set_option linter.unusedVariables false

theorem txt_toList (s : ByteArray) : txt s.data.toList = s := rfl
/-- What the law asks of a name's text. -/
theorem name_ways (x : ByteArray) : (lexL x.data.toList).2.2 ≠ 0 ∨ (lexL x.data.toList).2.2 = 0 ∧ ((lexL x.data.toList).1.length ≠ 1 ∨ ∃ t, (lexL x.data.toList).1 = [t] ∧ (t.k ≠ 1 ∨ t.k = 1 ∧ (txt t.t ≠ x ∨ txt t.t = x ∧ NameOf x.data.toList))) := by
  by_cases h1 : (lexL x.data.toList).2.2 = 0
  · refine .inr ⟨h1, ?_⟩
    by_cases h2 : (lexL x.data.toList).1.length = 1
    · obtain ⟨t, ht⟩ := List.length_eq_one_iff.1 h2
      refine .inr ⟨t, ht, ?_⟩
      by_cases h3 : t.k = 1
      · refine .inr ⟨h3, ?_⟩
        by_cases h4 : txt t.t = x
        · exact .inr ⟨h4, name_of h1 ht h3 (by rw [← h4]; rfl)⟩
        · exact .inl h4
      · exact .inl h3
    · exact .inl h2
  · exact .inl h1
set_option maxRecDepth 100000 in
set_option maxHeartbeats 8000000 in
theorem Patterns_walk (v label edge : ByteArray) (back : Bool) (least more : Int) (h0 : 0 ≤ least ∧ least < 256) (h1 : 0 ≤ more ∧ more < 256) (hv : v.size ≤ maxLen) (hl : label.size ≤ maxLen) (he : edge.size ≤ maxLen) (w : World) (hT : Tabs w) :
    Calls Tryz.prog 8 #[.string v, .string label, .string edge, .bool back, .int .u8 least, .int .u8 more] w fun e w' => e = .returned (.bool true) ∧ Below w.heap.size w w' := by
  have hH := fun (_ : Unit) => head_any w hT
  have hLv := fun (_ : Unit) => Lex_at v hv
  have hLl := fun (_ : Unit) => Lex_at label hl
  have hLe := fun (_ : Unit) => Lex_at edge he
  replace hH : Hid _ := hH
  replace hLv : Hid _ := hLv
  replace hLl : Hid _ := hLl
  replace hLe : Hid _ := hLe
  replace hT : Hid _ := hT
  go_enter Tryz.func8, Tryz.ntmps8
  go_upto_region 2 with (go_at_call 9; (have hh := hH.out (); (with_reducible refine Calls.mono hh ?_); clear hh hH; rintro e w1 ⟨rfl, hb1⟩))
  have B1 := Blk.new w1 [.string v, .string label, .string edge] 9
  have hbW := below_on hb1 (below_new w1 (.cells #[.string v, .string label, .string edge] 9))
  go_wp2_with fail
  have s0 : (w1.alloc (.cells #[.string v, .string label, .string edge] 9)).cell? ⟨w1.heap.size, 0, none⟩ = some (.string v) := B1.c 0 (by simp)
  have s1 : (w1.alloc (.cells #[.string v, .string label, .string edge] 9)).cell? ⟨w1.heap.size, 1, none⟩ = some (.string label) := B1.c 1 (by simp)
  have s2 : (w1.alloc (.cells #[.string v, .string label, .string edge] 9)).cell? ⟨w1.heap.size, 2, none⟩ = some (.string edge) := B1.c 2 (by simp)
  have hg : w1.heap.size < (w1.alloc (.cells #[.string v, .string label, .string edge] 9)).heap.size := B1.lt
  clear B1 hb1
  generalize w1.alloc (.cells #[.string v, .string label, .string edge] 9) = W at *
  generalize w1.heap.size = G at *
  go_loopw [15] (fun i wr => Below W.heap.size W wr ∧ (i = .int .i64 0 ∨ i = .int .i64 1 ∧ NameOf v.data.toList ∨ i = .int .i64 2 ∧ NameOf v.data.toList ∧ NameOf label.data.toList ∨ i = .int .i64 3 ∧ NameOf v.data.toList ∧ NameOf label.data.toList ∧ NameOf edge.data.toList)) (fun i _ => 3 - (intOf i).toNat)
  case atStart => exact ⟨Below.refl _ _, .inl rfl⟩
  case round =>
    obtain ⟨hb, hi⟩ := hrel
    have hbw := below_on hbW hb
    replace s0 := (hb.cell (p := ⟨G, 0, none⟩) hg).trans s0
    replace s1 := (hb.cell (p := ⟨G, 1, none⟩) hg).trans s1
    replace s2 := (hb.cell (p := ⟨G, 2, none⟩) hg).trans s2
    rcases hi with rfl | ⟨rfl, nv⟩ | ⟨rfl, nv, nl⟩ | ⟨rfl, nv, nl, ne⟩
    · rcases name_ways v with ha | ⟨ha, hB | ⟨t, ht, hc | ⟨hc, hd | ⟨hd, nx⟩⟩⟩⟩
      · have hz0 : ¬ (lexL v.data.toList).2.2 = 0 := by simp [ha]
        have hz1 : ((lexL v.data.toList).2.2 != 0) = true := by simp [ha]
        have hz2 : ((lexL v.data.toList).2.2 == 0) = false := by simp [ha]
        have hz3 : decide ((lexL v.data.toList).2.2 = 0) = false := by simp [ha]
        go_upto_region 7 with ((with_reducible refine Calls.mono (hLv.out () _ (hT.out.below hbw)) ?_); rintro e w2 ⟨p, cap, rfl, hcap, hws, hb2⟩)
        have t0 := (hb2.cell (p := ⟨G, 0, none⟩) (Nat.lt_of_lt_of_le hg hb.size)).trans s0
        have hbx := below_on hb hb2
        clear hws
        generalize (lexL v.data.toList).2.2 = er at *
        generalize (lexL v.data.toList).2.1 = z at *
        generalize (lexL v.data.toList).1.length = n at *
        go_quiet (fail)
        go_wp2_with fail
        go_returns
        exact ⟨by simp, below_on hbW (below_on hbx (below_drewN2 _ _))⟩
      · have hB' : ¬ ((lexL v.data.toList).1.length : Int) = 1 := by omega
        have hz0 : ¬ ((lexL v.data.toList).1.length : Int) = 1 := by simp [hB']
        have hz1 : (((lexL v.data.toList).1.length : Int) != 1) = true := by simp [hB']
        have hz2 : (((lexL v.data.toList).1.length : Int) == 1) = false := by simp [hB']
        have hz3 : decide (((lexL v.data.toList).1.length : Int) = 1) = false := by simp [hB']
        go_upto_region 7 with ((with_reducible refine Calls.mono (hLv.out () _ (hT.out.below hbw)) ?_); rintro e w2 ⟨p, cap, rfl, hcap, hws, hb2⟩)
        have t0 := (hb2.cell (p := ⟨G, 0, none⟩) (Nat.lt_of_lt_of_le hg hb.size)).trans s0
        have hbx := below_on hb hb2
        clear hws
        try rw [ha]
        generalize (lexL v.data.toList).2.1 = z at *
        generalize (lexL v.data.toList).1.length = n at *
        go_quiet (fail)
        go_wp2_with fail
        go_returns
        exact ⟨by simp, below_on hbW (below_on hbx (below_drewN2 _ _))⟩
      · have hz0 : ¬ t.k = 1 := by simp [hc]
        have hz1 : (t.k != 1) = true := by simp [hc]
        have hz2 : (t.k == 1) = false := by simp [hc]
        have hz3 : decide (t.k = 1) = false := by simp [hc]
        go_upto_region 7 with ((with_reducible refine Calls.mono (hLv.out () _ (hT.out.below hbw)) ?_); rintro e w2 ⟨p, cap, rfl, hcap, hws, hb2⟩)
        have t0 := (hb2.cell (p := ⟨G, 0, none⟩) (Nat.lt_of_lt_of_le hg hb.size)).trans s0
        have hbx := below_on hb hb2
        have hW := hws w2 (fun _ _ _ => rfl)
        clear hws
        try rw [ht]
        rw [ht] at hW hcap
        try rw [ha]
        rcases hW with hw0 | ⟨g2, o2, rfl, hg2, hc2⟩
        · cases hw0
        obtain ⟨k0, k1, _, _⟩ := hc2 0 (by simp)
        rw [Nat.zero_mul, Nat.add_zero] at k0 k1
        have k0' : w2.cell? ⟨g2, o2, none⟩ = some (.int .i64 t.k) := k0
        have k1' : w2.cell? ⟨g2, o2 + 1, none⟩ = some (.string (txt t.t)) := k1
        clear hc2 k0 k1
        have hone : (([t] : List Tk).length : Int) = 1 := rfl
        generalize (lexL v.data.toList).2.1 = z at *
        go_quiet (fail)
        go_wp2_with fail
        go_returns
        exact ⟨by simp, below_on hbW (below_on hbx (below_drewN2 _ _))⟩
      · have hz0 : ¬ txt t.t = v := by simp [hd]
        have hz1 : decide (txt t.t = v) = false := by simp [hd]
        have hz9 : ((txt t.t).toList == v.toList) = false := by rw [same_texts]; exact decide_eq_false hd
        go_upto_region 7 with ((with_reducible refine Calls.mono (hLv.out () _ (hT.out.below hbw)) ?_); rintro e w2 ⟨p, cap, rfl, hcap, hws, hb2⟩)
        have t0 := (hb2.cell (p := ⟨G, 0, none⟩) (Nat.lt_of_lt_of_le hg hb.size)).trans s0
        have hbx := below_on hb hb2
        have hW := hws w2 (fun _ _ _ => rfl)
        clear hws
        try rw [ht]
        rw [ht] at hW hcap
        try rw [ha]
        rcases hW with hw0 | ⟨g2, o2, rfl, hg2, hc2⟩
        · cases hw0
        obtain ⟨k0, k1, _, _⟩ := hc2 0 (by simp)
        rw [Nat.zero_mul, Nat.add_zero] at k0 k1
        have k0' : w2.cell? ⟨g2, o2, none⟩ = some (.int .i64 t.k) := k0
        have k1' : w2.cell? ⟨g2, o2 + 1, none⟩ = some (.string (txt t.t)) := k1
        clear hc2 k0 k1
        have hone : (([t] : List Tk).length : Int) = 1 := rfl
        generalize (lexL v.data.toList).2.1 = z at *
        rw [hc] at k0'
        go_quiet (fail)
        go_wp2_with fail
        go_returns
        exact ⟨by simp, below_on hbW (below_on hbx (below_drewN2 _ _))⟩
      · skip
        go_upto_region 7 with ((with_reducible refine Calls.mono (hLv.out () _ (hT.out.below hbw)) ?_); rintro e w2 ⟨p, cap, rfl, hcap, hws, hb2⟩)
        have t0 := (hb2.cell (p := ⟨G, 0, none⟩) (Nat.lt_of_lt_of_le hg hb.size)).trans s0
        have hbx := below_on hb hb2
        have hW := hws w2 (fun _ _ _ => rfl)
        clear hws
        try rw [ht]
        rw [ht] at hW hcap
        try rw [ha]
        rcases hW with hw0 | ⟨g2, o2, rfl, hg2, hc2⟩
        · cases hw0
        obtain ⟨k0, k1, _, _⟩ := hc2 0 (by simp)
        rw [Nat.zero_mul, Nat.add_zero] at k0 k1
        have k0' : w2.cell? ⟨g2, o2, none⟩ = some (.int .i64 t.k) := k0
        have k1' : w2.cell? ⟨g2, o2 + 1, none⟩ = some (.string (txt t.t)) := k1
        clear hc2 k0 k1
        have hone : (([t] : List Tk).length : Int) = 1 := rfl
        generalize (lexL v.data.toList).2.1 = z at *
        rw [hc] at k0'
        rw [hd] at k1'
        go_quiet (fail)
        go_wp2_with fail
        exact ⟨⟨below_on hbx (below_drewN2 _ _), .inr (.inl ⟨rfl, nx⟩)⟩, by decide⟩
    · rcases name_ways label with ha | ⟨ha, hB | ⟨t, ht, hc | ⟨hc, hd | ⟨hd, nx⟩⟩⟩⟩
      · have hz0 : ¬ (lexL label.data.toList).2.2 = 0 := by simp [ha]
        have hz1 : ((lexL label.data.toList).2.2 != 0) = true := by simp [ha]
        have hz2 : ((lexL label.data.toList).2.2 == 0) = false := by simp [ha]
        have hz3 : decide ((lexL label.data.toList).2.2 = 0) = false := by simp [ha]
        go_upto_region 7 with ((with_reducible refine Calls.mono (hLl.out () _ (hT.out.below hbw)) ?_); rintro e w2 ⟨p, cap, rfl, hcap, hws, hb2⟩)
        have t1 := (hb2.cell (p := ⟨G, 1, none⟩) (Nat.lt_of_lt_of_le hg hb.size)).trans s1
        have hbx := below_on hb hb2
        clear hws
        generalize (lexL label.data.toList).2.2 = er at *
        generalize (lexL label.data.toList).2.1 = z at *
        generalize (lexL label.data.toList).1.length = n at *
        go_quiet (fail)
        go_wp2_with fail
        go_returns
        exact ⟨by simp, below_on hbW (below_on hbx (below_drewN2 _ _))⟩
      · have hB' : ¬ ((lexL label.data.toList).1.length : Int) = 1 := by omega
        have hz0 : ¬ ((lexL label.data.toList).1.length : Int) = 1 := by simp [hB']
        have hz1 : (((lexL label.data.toList).1.length : Int) != 1) = true := by simp [hB']
        have hz2 : (((lexL label.data.toList).1.length : Int) == 1) = false := by simp [hB']
        have hz3 : decide (((lexL label.data.toList).1.length : Int) = 1) = false := by simp [hB']
        go_upto_region 7 with ((with_reducible refine Calls.mono (hLl.out () _ (hT.out.below hbw)) ?_); rintro e w2 ⟨p, cap, rfl, hcap, hws, hb2⟩)
        have t1 := (hb2.cell (p := ⟨G, 1, none⟩) (Nat.lt_of_lt_of_le hg hb.size)).trans s1
        have hbx := below_on hb hb2
        clear hws
        try rw [ha]
        generalize (lexL label.data.toList).2.1 = z at *
        generalize (lexL label.data.toList).1.length = n at *
        go_quiet (fail)
        go_wp2_with fail
        go_returns
        exact ⟨by simp, below_on hbW (below_on hbx (below_drewN2 _ _))⟩
      · have hz0 : ¬ t.k = 1 := by simp [hc]
        have hz1 : (t.k != 1) = true := by simp [hc]
        have hz2 : (t.k == 1) = false := by simp [hc]
        have hz3 : decide (t.k = 1) = false := by simp [hc]
        go_upto_region 7 with ((with_reducible refine Calls.mono (hLl.out () _ (hT.out.below hbw)) ?_); rintro e w2 ⟨p, cap, rfl, hcap, hws, hb2⟩)
        have t1 := (hb2.cell (p := ⟨G, 1, none⟩) (Nat.lt_of_lt_of_le hg hb.size)).trans s1
        have hbx := below_on hb hb2
        have hW := hws w2 (fun _ _ _ => rfl)
        clear hws
        try rw [ht]
        rw [ht] at hW hcap
        try rw [ha]
        rcases hW with hw0 | ⟨g2, o2, rfl, hg2, hc2⟩
        · cases hw0
        obtain ⟨k0, k1, _, _⟩ := hc2 0 (by simp)
        rw [Nat.zero_mul, Nat.add_zero] at k0 k1
        have k0' : w2.cell? ⟨g2, o2, none⟩ = some (.int .i64 t.k) := k0
        have k1' : w2.cell? ⟨g2, o2 + 1, none⟩ = some (.string (txt t.t)) := k1
        clear hc2 k0 k1
        have hone : (([t] : List Tk).length : Int) = 1 := rfl
        generalize (lexL label.data.toList).2.1 = z at *
        go_quiet (fail)
        go_wp2_with fail
        go_returns
        exact ⟨by simp, below_on hbW (below_on hbx (below_drewN2 _ _))⟩
      · have hz0 : ¬ txt t.t = label := by simp [hd]
        have hz1 : decide (txt t.t = label) = false := by simp [hd]
        have hz9 : ((txt t.t).toList == label.toList) = false := by rw [same_texts]; exact decide_eq_false hd
        go_upto_region 7 with ((with_reducible refine Calls.mono (hLl.out () _ (hT.out.below hbw)) ?_); rintro e w2 ⟨p, cap, rfl, hcap, hws, hb2⟩)
        have t1 := (hb2.cell (p := ⟨G, 1, none⟩) (Nat.lt_of_lt_of_le hg hb.size)).trans s1
        have hbx := below_on hb hb2
        have hW := hws w2 (fun _ _ _ => rfl)
        clear hws
        try rw [ht]
        rw [ht] at hW hcap
        try rw [ha]
        rcases hW with hw0 | ⟨g2, o2, rfl, hg2, hc2⟩
        · cases hw0
        obtain ⟨k0, k1, _, _⟩ := hc2 0 (by simp)
        rw [Nat.zero_mul, Nat.add_zero] at k0 k1
        have k0' : w2.cell? ⟨g2, o2, none⟩ = some (.int .i64 t.k) := k0
        have k1' : w2.cell? ⟨g2, o2 + 1, none⟩ = some (.string (txt t.t)) := k1
        clear hc2 k0 k1
        have hone : (([t] : List Tk).length : Int) = 1 := rfl
        generalize (lexL label.data.toList).2.1 = z at *
        rw [hc] at k0'
        go_quiet (fail)
        go_wp2_with fail
        go_returns
        exact ⟨by simp, below_on hbW (below_on hbx (below_drewN2 _ _))⟩
      · skip
        go_upto_region 7 with ((with_reducible refine Calls.mono (hLl.out () _ (hT.out.below hbw)) ?_); rintro e w2 ⟨p, cap, rfl, hcap, hws, hb2⟩)
        have t1 := (hb2.cell (p := ⟨G, 1, none⟩) (Nat.lt_of_lt_of_le hg hb.size)).trans s1
        have hbx := below_on hb hb2
        have hW := hws w2 (fun _ _ _ => rfl)
        clear hws
        try rw [ht]
        rw [ht] at hW hcap
        try rw [ha]
        rcases hW with hw0 | ⟨g2, o2, rfl, hg2, hc2⟩
        · cases hw0
        obtain ⟨k0, k1, _, _⟩ := hc2 0 (by simp)
        rw [Nat.zero_mul, Nat.add_zero] at k0 k1
        have k0' : w2.cell? ⟨g2, o2, none⟩ = some (.int .i64 t.k) := k0
        have k1' : w2.cell? ⟨g2, o2 + 1, none⟩ = some (.string (txt t.t)) := k1
        clear hc2 k0 k1
        have hone : (([t] : List Tk).length : Int) = 1 := rfl
        generalize (lexL label.data.toList).2.1 = z at *
        rw [hc] at k0'
        rw [hd] at k1'
        go_quiet (fail)
        go_wp2_with fail
        exact ⟨⟨below_on hbx (below_drewN2 _ _), .inr (.inr (.inl ⟨rfl, nv, nx⟩))⟩, by decide⟩
    · rcases name_ways edge with ha | ⟨ha, hB | ⟨t, ht, hc | ⟨hc, hd | ⟨hd, nx⟩⟩⟩⟩
      · have hz0 : ¬ (lexL edge.data.toList).2.2 = 0 := by simp [ha]
        have hz1 : ((lexL edge.data.toList).2.2 != 0) = true := by simp [ha]
        have hz2 : ((lexL edge.data.toList).2.2 == 0) = false := by simp [ha]
        have hz3 : decide ((lexL edge.data.toList).2.2 = 0) = false := by simp [ha]
        go_upto_region 7 with ((with_reducible refine Calls.mono (hLe.out () _ (hT.out.below hbw)) ?_); rintro e w2 ⟨p, cap, rfl, hcap, hws, hb2⟩)
        have t2 := (hb2.cell (p := ⟨G, 2, none⟩) (Nat.lt_of_lt_of_le hg hb.size)).trans s2
        have hbx := below_on hb hb2
        clear hws
        generalize (lexL edge.data.toList).2.2 = er at *
        generalize (lexL edge.data.toList).2.1 = z at *
        generalize (lexL edge.data.toList).1.length = n at *
        go_quiet (fail)
        go_wp2_with fail
        go_returns
        exact ⟨by simp, below_on hbW (below_on hbx (below_drewN2 _ _))⟩
      · have hB' : ¬ ((lexL edge.data.toList).1.length : Int) = 1 := by omega
        have hz0 : ¬ ((lexL edge.data.toList).1.length : Int) = 1 := by simp [hB']
        have hz1 : (((lexL edge.data.toList).1.length : Int) != 1) = true := by simp [hB']
        have hz2 : (((lexL edge.data.toList).1.length : Int) == 1) = false := by simp [hB']
        have hz3 : decide (((lexL edge.data.toList).1.length : Int) = 1) = false := by simp [hB']
        go_upto_region 7 with ((with_reducible refine Calls.mono (hLe.out () _ (hT.out.below hbw)) ?_); rintro e w2 ⟨p, cap, rfl, hcap, hws, hb2⟩)
        have t2 := (hb2.cell (p := ⟨G, 2, none⟩) (Nat.lt_of_lt_of_le hg hb.size)).trans s2
        have hbx := below_on hb hb2
        clear hws
        try rw [ha]
        generalize (lexL edge.data.toList).2.1 = z at *
        generalize (lexL edge.data.toList).1.length = n at *
        go_quiet (fail)
        go_wp2_with fail
        go_returns
        exact ⟨by simp, below_on hbW (below_on hbx (below_drewN2 _ _))⟩
      · have hz0 : ¬ t.k = 1 := by simp [hc]
        have hz1 : (t.k != 1) = true := by simp [hc]
        have hz2 : (t.k == 1) = false := by simp [hc]
        have hz3 : decide (t.k = 1) = false := by simp [hc]
        go_upto_region 7 with ((with_reducible refine Calls.mono (hLe.out () _ (hT.out.below hbw)) ?_); rintro e w2 ⟨p, cap, rfl, hcap, hws, hb2⟩)
        have t2 := (hb2.cell (p := ⟨G, 2, none⟩) (Nat.lt_of_lt_of_le hg hb.size)).trans s2
        have hbx := below_on hb hb2
        have hW := hws w2 (fun _ _ _ => rfl)
        clear hws
        try rw [ht]
        rw [ht] at hW hcap
        try rw [ha]
        rcases hW with hw0 | ⟨g2, o2, rfl, hg2, hc2⟩
        · cases hw0
        obtain ⟨k0, k1, _, _⟩ := hc2 0 (by simp)
        rw [Nat.zero_mul, Nat.add_zero] at k0 k1
        have k0' : w2.cell? ⟨g2, o2, none⟩ = some (.int .i64 t.k) := k0
        have k1' : w2.cell? ⟨g2, o2 + 1, none⟩ = some (.string (txt t.t)) := k1
        clear hc2 k0 k1
        have hone : (([t] : List Tk).length : Int) = 1 := rfl
        generalize (lexL edge.data.toList).2.1 = z at *
        go_quiet (fail)
        go_wp2_with fail
        go_returns
        exact ⟨by simp, below_on hbW (below_on hbx (below_drewN2 _ _))⟩
      · have hz0 : ¬ txt t.t = edge := by simp [hd]
        have hz1 : decide (txt t.t = edge) = false := by simp [hd]
        have hz9 : ((txt t.t).toList == edge.toList) = false := by rw [same_texts]; exact decide_eq_false hd
        go_upto_region 7 with ((with_reducible refine Calls.mono (hLe.out () _ (hT.out.below hbw)) ?_); rintro e w2 ⟨p, cap, rfl, hcap, hws, hb2⟩)
        have t2 := (hb2.cell (p := ⟨G, 2, none⟩) (Nat.lt_of_lt_of_le hg hb.size)).trans s2
        have hbx := below_on hb hb2
        have hW := hws w2 (fun _ _ _ => rfl)
        clear hws
        try rw [ht]
        rw [ht] at hW hcap
        try rw [ha]
        rcases hW with hw0 | ⟨g2, o2, rfl, hg2, hc2⟩
        · cases hw0
        obtain ⟨k0, k1, _, _⟩ := hc2 0 (by simp)
        rw [Nat.zero_mul, Nat.add_zero] at k0 k1
        have k0' : w2.cell? ⟨g2, o2, none⟩ = some (.int .i64 t.k) := k0
        have k1' : w2.cell? ⟨g2, o2 + 1, none⟩ = some (.string (txt t.t)) := k1
        clear hc2 k0 k1
        have hone : (([t] : List Tk).length : Int) = 1 := rfl
        generalize (lexL edge.data.toList).2.1 = z at *
        rw [hc] at k0'
        go_quiet (fail)
        go_wp2_with fail
        go_returns
        exact ⟨by simp, below_on hbW (below_on hbx (below_drewN2 _ _))⟩
      · skip
        go_upto_region 7 with ((with_reducible refine Calls.mono (hLe.out () _ (hT.out.below hbw)) ?_); rintro e w2 ⟨p, cap, rfl, hcap, hws, hb2⟩)
        have t2 := (hb2.cell (p := ⟨G, 2, none⟩) (Nat.lt_of_lt_of_le hg hb.size)).trans s2
        have hbx := below_on hb hb2
        have hW := hws w2 (fun _ _ _ => rfl)
        clear hws
        try rw [ht]
        rw [ht] at hW hcap
        try rw [ha]
        rcases hW with hw0 | ⟨g2, o2, rfl, hg2, hc2⟩
        · cases hw0
        obtain ⟨k0, k1, _, _⟩ := hc2 0 (by simp)
        rw [Nat.zero_mul, Nat.add_zero] at k0 k1
        have k0' : w2.cell? ⟨g2, o2, none⟩ = some (.int .i64 t.k) := k0
        have k1' : w2.cell? ⟨g2, o2 + 1, none⟩ = some (.string (txt t.t)) := k1
        clear hc2 k0 k1
        have hone : (([t] : List Tk).length : Int) = 1 := rfl
        generalize (lexL edge.data.toList).2.1 = z at *
        rw [hc] at k0'
        rw [hd] at k1'
        go_quiet (fail)
        go_wp2_with fail
        exact ⟨⟨below_on hbx (below_drewN2 _ _), .inr (.inr (.inr ⟨rfl, nv, nl, nx⟩))⟩, by decide⟩
    · obtain ⟨n, hn⟩ : ∃ n : Nat, least % 9 = n := ⟨(least % 9).toNat, by omega⟩
      have hn9 : n < 9 := by omega
      obtain ⟨m', hm'⟩ : ∃ m' : Nat, more % (9 - (n : Int)) = m' := ⟨(more % (9 - (n : Int))).toNat, by have := Int.emod_nonneg more (b := 9 - (n : Int)) (by omega); omega⟩
      have hm9 : n + m' < 9 := by have := Int.emod_lt_of_pos more (b := 9 - (n : Int)) (by omega); omega
      have hmt : more.tmod (9 - (n : Int)) = m' := by rw [Int.tmod_eq_emod_of_nonneg h1.1]; exact hm'
      have hd9 : decide ((9 - (n : Int)) = 0) = false := by simp; omega
      go_upto_region 12 with fail
      rw [show ((n : Int) + (m' : Int)) = ((n + m' : Nat) : Int) from rfl]
      have hnm : n ≤ n + m' := Nat.le_add_right _ _
      clear hm' hmt
      generalize n + m' = m at *
      have v32 : v.size ≤ 32 := name_len nv
      have l32 : label.size ≤ 32 := name_len nl
      have e32 : edge.size ≤ 32 := name_len ne
      have dn : ((⟨#[48, 49, 50, 51, 52, 53, 54, 55, 56]⟩ : ByteArray).extract n (n + 1)).size = 1 := by rw [ByteArray.size_extract]; show min (n + 1) 9 - n = 1; omega
      have dm : ((⟨#[48, 49, 50, 51, 52, 53, 54, 55, 56]⟩ : ByteArray).extract m (m + 1)).size = 1 := by rw [ByteArray.size_extract]; show min (m + 1) 9 - m = 1; omega
      have hni : (n : Int) < 9 := by omega
      have hmi : (m : Int) < 9 := by omega
      go_quiet (fail)
      obtain ⟨BD, hBD⟩ : ∃ BD : ByteArray, BD = (⟨#[91]⟩ : ByteArray) ++ edge ++ ⟨#[58]⟩ ++ label ++ ⟨#[42]⟩ ++ (⟨#[48, 49, 50, 51, 52, 53, 54, 55, 56]⟩ : ByteArray).extract n (n + 1) ++ ⟨#[46, 46]⟩ ++ (⟨#[48, 49, 50, 51, 52, 53, 54, 55, 56]⟩ : ByteArray).extract m (m + 1) ++ ⟨#[93]⟩ := ⟨_, rfl⟩
      rw [← hBD]
      have hbl : ∀ t, BD.data.toList ++ t = bodT edge.data.toList label.data.toList n m t := fun t => by rw [hBD]; exact body_list label edge n m hn9 hm9 t
      have hbz : BD.size ≤ 100 := by
        rw [hBD]
        simp only [ByteArray.size_append, dn, dm]
        show 1 + edge.size + 1 + label.size + 1 + 1 + 2 + 1 + 1 ≤ 100
        omega
      clear hBD
      have hm9' : m < 9 := hm9
      cases back with
      | true =>
        obtain ⟨S, hS⟩ : ∃ S : ByteArray, S = ((⟨#[60, 45]⟩ : ByteArray) ++ BD ++ ⟨#[45]⟩) := ⟨_, rfl⟩
        have z1 := pat_list v label edge BD n m hbl true S (by rw [hS, if_pos rfl])
        have z2 := pat_size v label S v32 l32 (by rw [hS, ByteArray.size_append, ByteArray.size_append]; show 2 + BD.size + 1 ≤ 110; omega)
        have hP := fun (W : World) (hTW : Tabs W) => patt_parse nv nl ne true n m hn9 hm9' hnm _ z1 z2 W hTW
        rw [hS] at hP
        clear z1 z2 hS
        replace hP : Hid _ := hP
        go_upto_region 16 with fail
        go_upto_region 17 with ((with_reducible refine Calls.mono (hP.out _ (hT.out.below (below_on hbw (below_drewN2 _ _)))) ?_); rintro e w3 ⟨hb3, g, o, c0, p1, c1, p3, c3, p4, c4, gn, on, cn, ge, oe, ce, rfl, a0, a1, b0, b1, b2, b3, d0, d1, d2, d3, d4, d5⟩)
        have hbx := below_on (below_on hbw (below_drewN2 _ _)) hb3
        have hn3 := below_new w3 (.cells #[.slice (some ⟨g, o, none⟩) 1 c0, .slice p1 0 c1, .bool false, .slice p3 1 c3, .slice p4 0 c4, .int .i64 (-1)] 28)
        have B4 := Blk.new w3 [.slice (some ⟨g, o, none⟩) 1 c0, .slice p1 0 c1, .bool false, .slice p3 1 c3, .slice p4 0 c4, .int .i64 (-1)] 28
        replace a0 := (hn3.cell (p := ⟨g, o, none⟩) (World.block_lt_of_cell? w3 _ a0)).trans a0
        replace a1 := (hn3.cell (p := ⟨g, o + 1, none⟩) (World.block_lt_of_cell? w3 _ a1)).trans a1
        replace b0 := (hn3.cell (p := ⟨gn, on, none⟩) (World.block_lt_of_cell? w3 _ b0)).trans b0
        replace b1 := (hn3.cell (p := ⟨gn, on + 1, none⟩) (World.block_lt_of_cell? w3 _ b1)).trans b1
        replace b2 := (hn3.cell (p := ⟨gn, on + 2, none⟩) (World.block_lt_of_cell? w3 _ b2)).trans b2
        replace b3 := (hn3.cell (p := ⟨gn, on + 3, none⟩) (World.block_lt_of_cell? w3 _ b3)).trans b3
        replace d0 := (hn3.cell (p := ⟨ge, oe, none⟩) (World.block_lt_of_cell? w3 _ d0)).trans d0
        replace d1 := (hn3.cell (p := ⟨ge, oe + 1, none⟩) (World.block_lt_of_cell? w3 _ d1)).trans d1
        replace d2 := (hn3.cell (p := ⟨ge, oe + 2, none⟩) (World.block_lt_of_cell? w3 _ d2)).trans d2
        replace d3 := (hn3.cell (p := ⟨ge, oe + 3, none⟩) (World.block_lt_of_cell? w3 _ d3)).trans d3
        replace d4 := (hn3.cell (p := ⟨ge, oe + 4, none⟩) (World.block_lt_of_cell? w3 _ d4)).trans d4
        replace d5 := (hn3.cell (p := ⟨ge, oe + 5, none⟩) (World.block_lt_of_cell? w3 _ d5)).trans d5
        have hby := below_on hbx hn3
        have f0 : (w3.alloc (.cells #[.slice (some ⟨g, o, none⟩) 1 c0, .slice p1 0 c1, .bool false, .slice p3 1 c3, .slice p4 0 c4, .int .i64 (-1)] 28)).cell? ⟨w3.heap.size, 0, none⟩ = some (.slice (some ⟨g, o, none⟩) 1 c0) := B4.c 0 (by simp)
        have f1 : (w3.alloc (.cells #[.slice (some ⟨g, o, none⟩) 1 c0, .slice p1 0 c1, .bool false, .slice p3 1 c3, .slice p4 0 c4, .int .i64 (-1)] 28)).cell? ⟨w3.heap.size, 1, none⟩ = some (.slice p1 0 c1) := B4.c 1 (by simp)
        have f2 : (w3.alloc (.cells #[.slice (some ⟨g, o, none⟩) 1 c0, .slice p1 0 c1, .bool false, .slice p3 1 c3, .slice p4 0 c4, .int .i64 (-1)] 28)).cell? ⟨w3.heap.size, 2, none⟩ = some (.bool false) := B4.c 2 (by simp)
        have f3 : (w3.alloc (.cells #[.slice (some ⟨g, o, none⟩) 1 c0, .slice p1 0 c1, .bool false, .slice p3 1 c3, .slice p4 0 c4, .int .i64 (-1)] 28)).cell? ⟨w3.heap.size, 3, none⟩ = some (.slice p3 1 c3) := B4.c 3 (by simp)
        have f4 : (w3.alloc (.cells #[.slice (some ⟨g, o, none⟩) 1 c0, .slice p1 0 c1, .bool false, .slice p3 1 c3, .slice p4 0 c4, .int .i64 (-1)] 28)).cell? ⟨w3.heap.size, 4, none⟩ = some (.slice p4 0 c4) := B4.c 4 (by simp)
        have f5 : (w3.alloc (.cells #[.slice (some ⟨g, o, none⟩) 1 c0, .slice p1 0 c1, .bool false, .slice p3 1 c3, .slice p4 0 c4, .int .i64 (-1)] 28)).cell? ⟨w3.heap.size, 5, none⟩ = some (.int .i64 (-1)) := B4.c 5 (by simp)
        clear hb3 hbx hn3 B4
        generalize w3.heap.size = R at *
        generalize w3.alloc (.cells #[.slice (some ⟨g, o, none⟩) 1 c0, .slice p1 0 c1, .bool false, .slice p3 1 c3, .slice p4 0 c4, .int .i64 (-1)] 28) = W4 at *
        go_upto_region 20 with fail
        have hn5 := below_new W4 (.cells #[.string edge, .string label, .bool true, .int .i64 1, .int .i64 n, .int .i64 m] 64)
        have B5 := Blk.new W4 [.string edge, .string label, .bool true, .int .i64 1, .int .i64 n, .int .i64 m] 64
        replace a0 := (hn5.cell (p := ⟨g, o, none⟩) (World.block_lt_of_cell? W4 _ a0)).trans a0
        replace a1 := (hn5.cell (p := ⟨g, o + 1, none⟩) (World.block_lt_of_cell? W4 _ a1)).trans a1
        replace b0 := (hn5.cell (p := ⟨gn, on, none⟩) (World.block_lt_of_cell? W4 _ b0)).trans b0
        replace b1 := (hn5.cell (p := ⟨gn, on + 1, none⟩) (World.block_lt_of_cell? W4 _ b1)).trans b1
        replace b2 := (hn5.cell (p := ⟨gn, on + 2, none⟩) (World.block_lt_of_cell? W4 _ b2)).trans b2
        replace b3 := (hn5.cell (p := ⟨gn, on + 3, none⟩) (World.block_lt_of_cell? W4 _ b3)).trans b3
        replace f0 := (hn5.cell (p := ⟨R, 0, none⟩) (World.block_lt_of_cell? W4 _ f0)).trans f0
        replace f1 := (hn5.cell (p := ⟨R, 1, none⟩) (World.block_lt_of_cell? W4 _ f1)).trans f1
        replace f2 := (hn5.cell (p := ⟨R, 2, none⟩) (World.block_lt_of_cell? W4 _ f2)).trans f2
        replace f3 := (hn5.cell (p := ⟨R, 3, none⟩) (World.block_lt_of_cell? W4 _ f3)).trans f3
        replace f4 := (hn5.cell (p := ⟨R, 4, none⟩) (World.block_lt_of_cell? W4 _ f4)).trans f4
        replace f5 := (hn5.cell (p := ⟨R, 5, none⟩) (World.block_lt_of_cell? W4 _ f5)).trans f5
        have q0 : (W4.alloc (.cells #[.string edge, .string label, .bool true, .int .i64 1, .int .i64 n, .int .i64 m] 64)).cell? ⟨W4.heap.size, 0, none⟩ = some (.string edge) := B5.c 0 (by simp)
        have q1 : (W4.alloc (.cells #[.string edge, .string label, .bool true, .int .i64 1, .int .i64 n, .int .i64 m] 64)).cell? ⟨W4.heap.size, 1, none⟩ = some (.string label) := B5.c 1 (by simp)
        have q2 : (W4.alloc (.cells #[.string edge, .string label, .bool true, .int .i64 1, .int .i64 n, .int .i64 m] 64)).cell? ⟨W4.heap.size, 2, none⟩ = some (.bool true) := B5.c 2 (by simp)
        have q3 : (W4.alloc (.cells #[.string edge, .string label, .bool true, .int .i64 1, .int .i64 n, .int .i64 m] 64)).cell? ⟨W4.heap.size, 3, none⟩ = some (.int .i64 1) := B5.c 3 (by simp)
        have q4 : (W4.alloc (.cells #[.string edge, .string label, .bool true, .int .i64 1, .int .i64 n, .int .i64 m] 64)).cell? ⟨W4.heap.size, 4, none⟩ = some (.int .i64 n) := B5.c 4 (by simp)
        have q5 : (W4.alloc (.cells #[.string edge, .string label, .bool true, .int .i64 1, .int .i64 n, .int .i64 m] 64)).cell? ⟨W4.heap.size, 5, none⟩ = some (.int .i64 m) := B5.c 5 (by simp)
        have hbz5 := below_on hby hn5
        clear hn5 B5 hby d0 d1 d2 d3 d4 d5
        generalize W4.heap.size = R5 at *
        generalize W4.alloc (.cells #[.string edge, .string label, .bool true, .int .i64 1, .int .i64 n, .int .i64 m] 64) = W5 at *
        go_wp2_with fail
        go_returns
        exact ⟨by simp, hbz5⟩
      | false =>
        obtain ⟨S, hS⟩ : ∃ S : ByteArray, S = ((⟨#[45]⟩ : ByteArray) ++ BD ++ ⟨#[45, 62]⟩) := ⟨_, rfl⟩
        have z1 := pat_list v label edge BD n m hbl false S (by rw [hS, if_neg Bool.false_ne_true])
        have z2 := pat_size v label S v32 l32 (by rw [hS, ByteArray.size_append, ByteArray.size_append]; show 1 + BD.size + 2 ≤ 110; omega)
        have hP := fun (W : World) (hTW : Tabs W) => patt_parse nv nl ne false n m hn9 hm9' hnm _ z1 z2 W hTW
        rw [hS] at hP
        clear z1 z2 hS
        replace hP : Hid _ := hP
        go_upto_region 16 with fail
        go_upto_region 17 with ((with_reducible refine Calls.mono (hP.out _ (hT.out.below (below_on hbw (below_drewN2 _ _)))) ?_); rintro e w3 ⟨hb3, g, o, c0, p1, c1, p3, c3, p4, c4, gn, on, cn, ge, oe, ce, rfl, a0, a1, b0, b1, b2, b3, d0, d1, d2, d3, d4, d5⟩)
        have hbx := below_on (below_on hbw (below_drewN2 _ _)) hb3
        have hn3 := below_new w3 (.cells #[.slice (some ⟨g, o, none⟩) 1 c0, .slice p1 0 c1, .bool false, .slice p3 1 c3, .slice p4 0 c4, .int .i64 (-1)] 28)
        have B4 := Blk.new w3 [.slice (some ⟨g, o, none⟩) 1 c0, .slice p1 0 c1, .bool false, .slice p3 1 c3, .slice p4 0 c4, .int .i64 (-1)] 28
        replace a0 := (hn3.cell (p := ⟨g, o, none⟩) (World.block_lt_of_cell? w3 _ a0)).trans a0
        replace a1 := (hn3.cell (p := ⟨g, o + 1, none⟩) (World.block_lt_of_cell? w3 _ a1)).trans a1
        replace b0 := (hn3.cell (p := ⟨gn, on, none⟩) (World.block_lt_of_cell? w3 _ b0)).trans b0
        replace b1 := (hn3.cell (p := ⟨gn, on + 1, none⟩) (World.block_lt_of_cell? w3 _ b1)).trans b1
        replace b2 := (hn3.cell (p := ⟨gn, on + 2, none⟩) (World.block_lt_of_cell? w3 _ b2)).trans b2
        replace b3 := (hn3.cell (p := ⟨gn, on + 3, none⟩) (World.block_lt_of_cell? w3 _ b3)).trans b3
        replace d0 := (hn3.cell (p := ⟨ge, oe, none⟩) (World.block_lt_of_cell? w3 _ d0)).trans d0
        replace d1 := (hn3.cell (p := ⟨ge, oe + 1, none⟩) (World.block_lt_of_cell? w3 _ d1)).trans d1
        replace d2 := (hn3.cell (p := ⟨ge, oe + 2, none⟩) (World.block_lt_of_cell? w3 _ d2)).trans d2
        replace d3 := (hn3.cell (p := ⟨ge, oe + 3, none⟩) (World.block_lt_of_cell? w3 _ d3)).trans d3
        replace d4 := (hn3.cell (p := ⟨ge, oe + 4, none⟩) (World.block_lt_of_cell? w3 _ d4)).trans d4
        replace d5 := (hn3.cell (p := ⟨ge, oe + 5, none⟩) (World.block_lt_of_cell? w3 _ d5)).trans d5
        have hby := below_on hbx hn3
        have f0 : (w3.alloc (.cells #[.slice (some ⟨g, o, none⟩) 1 c0, .slice p1 0 c1, .bool false, .slice p3 1 c3, .slice p4 0 c4, .int .i64 (-1)] 28)).cell? ⟨w3.heap.size, 0, none⟩ = some (.slice (some ⟨g, o, none⟩) 1 c0) := B4.c 0 (by simp)
        have f1 : (w3.alloc (.cells #[.slice (some ⟨g, o, none⟩) 1 c0, .slice p1 0 c1, .bool false, .slice p3 1 c3, .slice p4 0 c4, .int .i64 (-1)] 28)).cell? ⟨w3.heap.size, 1, none⟩ = some (.slice p1 0 c1) := B4.c 1 (by simp)
        have f2 : (w3.alloc (.cells #[.slice (some ⟨g, o, none⟩) 1 c0, .slice p1 0 c1, .bool false, .slice p3 1 c3, .slice p4 0 c4, .int .i64 (-1)] 28)).cell? ⟨w3.heap.size, 2, none⟩ = some (.bool false) := B4.c 2 (by simp)
        have f3 : (w3.alloc (.cells #[.slice (some ⟨g, o, none⟩) 1 c0, .slice p1 0 c1, .bool false, .slice p3 1 c3, .slice p4 0 c4, .int .i64 (-1)] 28)).cell? ⟨w3.heap.size, 3, none⟩ = some (.slice p3 1 c3) := B4.c 3 (by simp)
        have f4 : (w3.alloc (.cells #[.slice (some ⟨g, o, none⟩) 1 c0, .slice p1 0 c1, .bool false, .slice p3 1 c3, .slice p4 0 c4, .int .i64 (-1)] 28)).cell? ⟨w3.heap.size, 4, none⟩ = some (.slice p4 0 c4) := B4.c 4 (by simp)
        have f5 : (w3.alloc (.cells #[.slice (some ⟨g, o, none⟩) 1 c0, .slice p1 0 c1, .bool false, .slice p3 1 c3, .slice p4 0 c4, .int .i64 (-1)] 28)).cell? ⟨w3.heap.size, 5, none⟩ = some (.int .i64 (-1)) := B4.c 5 (by simp)
        clear hb3 hbx hn3 B4
        generalize w3.heap.size = R at *
        generalize w3.alloc (.cells #[.slice (some ⟨g, o, none⟩) 1 c0, .slice p1 0 c1, .bool false, .slice p3 1 c3, .slice p4 0 c4, .int .i64 (-1)] 28) = W4 at *
        go_upto_region 20 with fail
        have hn5 := below_new W4 (.cells #[.string edge, .string label, .bool false, .int .i64 1, .int .i64 n, .int .i64 m] 64)
        have B5 := Blk.new W4 [.string edge, .string label, .bool false, .int .i64 1, .int .i64 n, .int .i64 m] 64
        replace a0 := (hn5.cell (p := ⟨g, o, none⟩) (World.block_lt_of_cell? W4 _ a0)).trans a0
        replace a1 := (hn5.cell (p := ⟨g, o + 1, none⟩) (World.block_lt_of_cell? W4 _ a1)).trans a1
        replace b0 := (hn5.cell (p := ⟨gn, on, none⟩) (World.block_lt_of_cell? W4 _ b0)).trans b0
        replace b1 := (hn5.cell (p := ⟨gn, on + 1, none⟩) (World.block_lt_of_cell? W4 _ b1)).trans b1
        replace b2 := (hn5.cell (p := ⟨gn, on + 2, none⟩) (World.block_lt_of_cell? W4 _ b2)).trans b2
        replace b3 := (hn5.cell (p := ⟨gn, on + 3, none⟩) (World.block_lt_of_cell? W4 _ b3)).trans b3
        replace f0 := (hn5.cell (p := ⟨R, 0, none⟩) (World.block_lt_of_cell? W4 _ f0)).trans f0
        replace f1 := (hn5.cell (p := ⟨R, 1, none⟩) (World.block_lt_of_cell? W4 _ f1)).trans f1
        replace f2 := (hn5.cell (p := ⟨R, 2, none⟩) (World.block_lt_of_cell? W4 _ f2)).trans f2
        replace f3 := (hn5.cell (p := ⟨R, 3, none⟩) (World.block_lt_of_cell? W4 _ f3)).trans f3
        replace f4 := (hn5.cell (p := ⟨R, 4, none⟩) (World.block_lt_of_cell? W4 _ f4)).trans f4
        replace f5 := (hn5.cell (p := ⟨R, 5, none⟩) (World.block_lt_of_cell? W4 _ f5)).trans f5
        have q0 : (W4.alloc (.cells #[.string edge, .string label, .bool false, .int .i64 1, .int .i64 n, .int .i64 m] 64)).cell? ⟨W4.heap.size, 0, none⟩ = some (.string edge) := B5.c 0 (by simp)
        have q1 : (W4.alloc (.cells #[.string edge, .string label, .bool false, .int .i64 1, .int .i64 n, .int .i64 m] 64)).cell? ⟨W4.heap.size, 1, none⟩ = some (.string label) := B5.c 1 (by simp)
        have q2 : (W4.alloc (.cells #[.string edge, .string label, .bool false, .int .i64 1, .int .i64 n, .int .i64 m] 64)).cell? ⟨W4.heap.size, 2, none⟩ = some (.bool false) := B5.c 2 (by simp)
        have q3 : (W4.alloc (.cells #[.string edge, .string label, .bool false, .int .i64 1, .int .i64 n, .int .i64 m] 64)).cell? ⟨W4.heap.size, 3, none⟩ = some (.int .i64 1) := B5.c 3 (by simp)
        have q4 : (W4.alloc (.cells #[.string edge, .string label, .bool false, .int .i64 1, .int .i64 n, .int .i64 m] 64)).cell? ⟨W4.heap.size, 4, none⟩ = some (.int .i64 n) := B5.c 4 (by simp)
        have q5 : (W4.alloc (.cells #[.string edge, .string label, .bool false, .int .i64 1, .int .i64 n, .int .i64 m] 64)).cell? ⟨W4.heap.size, 5, none⟩ = some (.int .i64 m) := B5.c 5 (by simp)
        have hbz5 := below_on hby hn5
        clear hn5 B5 hby d0 d1 d2 d3 d4 d5
        generalize W4.heap.size = R5 at *
        generalize W4.alloc (.cells #[.string edge, .string label, .bool false, .int .i64 1, .int .i64 n, .int .i64 m] 64) = W5 at *
        go_wp2_with fail
        go_returns
        exact ⟨by simp, hbz5⟩
end Go.Proofs.YtefenbonjepjgaaGreatDoor
namespace Go.Proofs.YtefenbonjepjgaaGreatDoor
open Go.ChangeShapes Go.WideShapes Go.ChangeAt Go.RowKit
set_option linter.unusedVariables false
set_option linter.unusedSimpArgs false

set_option maxRecDepth 100000 in
theorem syntaxPatterns_contract (H : Type) (enc : TypeId × Value → H) (W : World) (base : Nat) (args : Array Value) (ds gs : List (DataW H)) (before : List MemPlace)
    (hval0 : ∀ (j : Nat) t v, Tryz.f8.params[j]? = some t → args[j]? = some v → Value.okWide Tryz.prog W .any base t v)
    (hW : DataW.Whole enc Tryz.prog Tryz.f8.params.toList Rows.syntaxPatternsSpec.vars false W args.toList ds gs before) (hL : laidMetH Tryz.prog Rows.syntaxPatternsRow.laid W) :
    Calls Tryz.prog 8 args W fun e W' => ∃ v, e = .returned v ∧ Rows.syntaxPatternsSpec.post enc Tryz.prog Tryz.f8 false true false false W args v W' := by
  have hval : ∀ (j : Nat) t v, Tryz.f8.params[j]? = some t → args[j]? = some v → Value.okWide Tryz.prog W .any base t v := hval0
  have hW' := hW
  obtain ⟨p, q, hA0, hV, rfl, hfz, hnd⟩ := hW
  have hA : DataW.TrodAll enc Tryz.prog W 0 (fun _ => true) true Tryz.f8.params.toList args.toList ds p := hA0
  rw [Tryz.params8] at hA hval
  obtain ⟨v0, vs0, d0, ds0, p0, q0, hargs, rfl, rfl, h0, r0⟩ := trodAll_cons hA
  obtain ⟨v1, vs1, d1, ds1, p1, q1, rfl, rfl, rfl, h1, r1⟩ := trodAll_cons r0
  obtain ⟨v2, vs2, d2, ds2, p2, q2, rfl, rfl, rfl, h2, r2⟩ := trodAll_cons r1
  obtain ⟨v3, vs3, d3, ds3, p3, q3, rfl, rfl, rfl, h3, r3⟩ := trodAll_cons r2
  obtain ⟨v4, vs4, d4, ds4, p4, q4, rfl, rfl, rfl, h4, r4⟩ := trodAll_cons r3
  obtain ⟨v5, vs5, d5, ds5, p5, q5, rfl, rfl, rfl, h5, r5⟩ := trodAll_cons r4
  obtain ⟨rfl, rfl, rfl⟩ := trodAll_nil r5
  obtain rfl : args = #[v0, v1, v2, v3, v4, v5] := by cases args; simp_all
  obtain ⟨rfl, rfl⟩ := trodVars_none hV
  have m0 := h0
  have lt0 : ∀ x ∈ p0, x.block < W.heap.size := by obtain ⟨m, hm⟩ := m0; exact DataW.trod_lt m _ _ _ hm
  have m1 := h1
  have lt1 : ∀ x ∈ p1, x.block < W.heap.size := by obtain ⟨m, hm⟩ := m1; exact DataW.trod_lt m _ _ _ hm
  have m2 := h2
  have lt2 : ∀ x ∈ p2, x.block < W.heap.size := by obtain ⟨m, hm⟩ := m2; exact DataW.trod_lt m _ _ _ hm
  have m3 := h3
  have lt3 : ∀ x ∈ p3, x.block < W.heap.size := by obtain ⟨m, hm⟩ := m3; exact DataW.trod_lt m _ _ _ hm
  have m4 := h4
  have lt4 : ∀ x ∈ p4, x.block < W.heap.size := by obtain ⟨m, hm⟩ := m4; exact DataW.trod_lt m _ _ _ hm
  have m5 := h5
  have lt5 : ∀ x ∈ p5, x.block < W.heap.size := by obtain ⟨m, hm⟩ := m5; exact DataW.trod_lt m _ _ _ hm
  obtain ⟨v, rfl, hv, ev⟩ : ∃ s, v0 = .string s ∧ s.size ≤ maxLen ∧ d0 = .lit (.string s.data.toList) := by
    obtain ⟨s, rfl⟩ := okWide_string Tryz.underlying9 (hval 0 9 v0 rfl rfl)
    obtain ⟨fuel, hf⟩ := h0
    obtain ⟨s3, e3, x3, w3⟩ := DataW.trod_string Tryz.underlying9 hf
    simp [Value.cells] at e3
    subst e3
    exact ⟨_, rfl, w3, congrArg Prod.fst x3⟩
  obtain ⟨label, rfl, hlabel, elabel⟩ : ∃ s, v1 = .string s ∧ s.size ≤ maxLen ∧ d1 = .lit (.string s.data.toList) := by
    obtain ⟨s, rfl⟩ := okWide_string Tryz.underlying9 (hval 1 9 v1 rfl rfl)
    obtain ⟨fuel, hf⟩ := h1
    obtain ⟨s3, e3, x3, w3⟩ := DataW.trod_string Tryz.underlying9 hf
    simp [Value.cells] at e3
    subst e3
    exact ⟨_, rfl, w3, congrArg Prod.fst x3⟩
  obtain ⟨edge, rfl, hedge, eedge⟩ : ∃ s, v2 = .string s ∧ s.size ≤ maxLen ∧ d2 = .lit (.string s.data.toList) := by
    obtain ⟨s, rfl⟩ := okWide_string Tryz.underlying9 (hval 2 9 v2 rfl rfl)
    obtain ⟨fuel, hf⟩ := h2
    obtain ⟨s3, e3, x3, w3⟩ := DataW.trod_string Tryz.underlying9 hf
    simp [Value.cells] at e3
    subst e3
    exact ⟨_, rfl, w3, congrArg Prod.fst x3⟩
  obtain ⟨back, rfl, rfl, rfl⟩ := open_bool Tryz.underlying4 (hval 3 4 v3 rfl rfl) h3
  obtain ⟨least, rfl, rfl, rfl, hleast⟩ := open_int Tryz.underlying5 (hval 4 5 v4 rfl rfl) h4
  replace hleast : 0 ≤ least ∧ least < 256 := by
    simp [Lit.wf, IntKind.min, IntKind.max, IntKind.signed, IntKind.bits] at hleast
    omega
  obtain ⟨more, rfl, rfl, rfl, hmore⟩ := open_int Tryz.underlying5 (hval 5 5 v5 rfl rfl) h5
  replace hmore : 0 ≤ more ∧ more < 256 := by
    simp [Lit.wf, IntKind.min, IntKind.max, IntKind.signed, IntKind.bits] at hmore
    omega
  clear hA0 hval0 hval
  refine (Patterns_walk v label edge back least more hleast hmore hv hlabel hedge W (tabs_of hL)).mono fun e W' ⟨he, bel⟩ => ?_
  subst he
  exact ⟨_, rfl, _, _, _, [], _, [], hW', trodAll_mk1 (shut_bool Tryz.underlying4 _), (trodAll_cons_mk (Below.trod laidOut (by kernel_rfl) (of_decide_eq_true (by kernel_rfl)) m0 bel lt0) (trodAll_cons_mk (Below.trod laidOut (by kernel_rfl) (of_decide_eq_true (by kernel_rfl)) m1 bel lt1) (trodAll_cons_mk (Below.trod laidOut (by kernel_rfl) (of_decide_eq_true (by kernel_rfl)) m2 bel lt2) (trodAll_cons_mk (Below.trod laidOut (by kernel_rfl) (of_decide_eq_true (by kernel_rfl)) m3 bel lt3) (trodAll_cons_mk (Below.trod laidOut (by kernel_rfl) (of_decide_eq_true (by kernel_rfl)) m4 bel lt4) (trodAll_cons_mk (Below.trod laidOut (by kernel_rfl) (of_decide_eq_true (by kernel_rfl)) m5 bel lt5) trodAll_mk0)))))), rfl, bel.frame _, fun h => by cases h⟩

theorem syntaxPatterns_reads (os : Os) {H : Type} (enc : TypeId × Value → H) : ∃ places, DataW.whole enc Tryz.prog ((laidWorld os).forCall (fun _ _ => 0) ⟨#[], #[.string ⟨#[]⟩, .string ⟨#[]⟩, .string ⟨#[]⟩, .bool false, .int .u8 0, .int .u8 0], []⟩).memory Tryz.f8.params.toList Rows.syntaxPatternsSpec.vars false #[.string ⟨#[]⟩, .string ⟨#[]⟩, .string ⟨#[]⟩, .bool false, .int .u8 0, .int .u8 0].toList 8 = some ([.lit (.string []), .lit (.string []), .lit (.string []), .lit (.bool false), .lit (.int .u8 0), .lit (.int .u8 0)], [], places) :=
  ⟨[], by kernel_rfl⟩

set_option maxRecDepth 100000 in
theorem syntaxPatterns_lifted (os : Os) (started : os.Started) (H : Type) (enc : TypeId × Value → H) (F : Stop.Interp) :
    ReturnsInHanded {} Tryz.checked os 8 .any ((OpenSpec.ofChange Rows.syntaxPatternsSpec).preRow enc Tryz.prog Tryz.f8 Rows.syntaxPatternsRow.domain false Rows.syntaxPatternsRow.laid) (((OpenSpec.ofChange Rows.syntaxPatternsSpec).at F).post enc Tryz.prog Tryz.f8 false true false false) := by
  obtain ⟨places, hx⟩ := syntaxPatterns_reads os enc
  refine returnsInHanded_of_row (C := Tryz.checked) (s := (OpenSpec.ofChange Rows.syntaxPatternsSpec)) own started (by kernel_rfl) Tryz.func8
    (witness_row_shaped (enc := enc) (C := Tryz.checked) false (laidWorld os) #[.string ⟨#[]⟩, .string ⟨#[]⟩, .string ⟨#[]⟩, .bool false, .int .u8 0, .int .u8 0] (laid_os os) (World.shaped_of_ZipB (by kernel_rfl) (by kernel_rfl)) (by kernel_rfl)
      (OpenSpec.preRow_of_cond 8 hx (by kernel_rfl) (fun k hk => by cases hk) (by kernel_rfl) (laid_met os #[.string ⟨#[]⟩, .string ⟨#[]⟩, .string ⟨#[]⟩, .bool false, .int .u8 0, .int .u8 0]))) ?_
  intro W base args ds gs before hval hW _ hcond hsz hL _ _
  exact syntaxPatterns_contract H enc W base args ds gs before hval hW hL

theorem syntaxPatterns_said : Rows.SyntaxPatternsSaid :=
  OpenClaim.holds_of_cond 8 Tryz.f8 rfl rfl rfl rfl rfl rfl rfl ⟨rfl, rfl, rfl, rfl, rfl⟩ rfl rfl rfl rfl rfl (by kernel_rfl) Tryz.func8 (by kernel_rfl)
    (of_decide_eq_true (by kernel_rfl)) (by unfold Func.isWrapper; first | (rw [if_pos (by decide +kernel)]; kernel_rfl) | (rw [if_neg (by decide +kernel)]; exact ⟨rfl, rfl⟩))
    (fun os started H enc _ F => by rw [OpenClaim.pre_eq_preRow]; exact syntaxPatterns_lifted os started H enc F)

theorem syntaxPatterns_plain (f : FuncId) (fn : Func) (hf : Tryz.pinned.checked.prog.funcNamed "portolan/portolanlaw08.SyntaxPatterns" = some f) (hfn : Tryz.pinned.checked.prog.funcs[f]? = some fn) :
    true = Tryz.pinned.checked.prog.looks [] ∧ ∀ (j : Nat) t, fn.params[j]? = some t → Tryz.pinned.checked.prog.wantsStandIn t = false := by
  obtain rfl : f = 8 := Option.some.inj ((show Tryz.prog.funcNamed "portolan/portolanlaw08.SyntaxPatterns" = some 8 by kernel_rfl).symm.trans hf) |>.symm
  obtain rfl : fn = Tryz.f8 := (Option.some.inj (Tryz.func8.symm.trans hfn)).symm
  refine ⟨by kernel_rfl, fun j t ht => ?_⟩
  rw [Tryz.params8] at ht
  have ht2 : t = 9 ∨ t = 9 ∨ t = 9 ∨ t = 4 ∨ t = 5 ∨ t = 5 := by simpa using Array.mem_of_getElem? ht
  rcases ht2 with rfl | rfl | rfl | rfl | rfl | rfl
  · exact (show Tryz.prog.wantsStandIn 9 = false by kernel_rfl)
  · exact (show Tryz.prog.wantsStandIn 9 = false by kernel_rfl)
  · exact (show Tryz.prog.wantsStandIn 9 = false by kernel_rfl)
  · exact (show Tryz.prog.wantsStandIn 4 = false by kernel_rfl)
  · exact (show Tryz.prog.wantsStandIn 5 = false by kernel_rfl)
  · exact (show Tryz.prog.wantsStandIn 5 = false by kernel_rfl)

theorem syntaxPatterns_holds : Rows.SyntaxPatternsCardSaid :=
  Claim7.holds_tied_plain_at .later [] _ _ _ _ syntaxPatterns_said (fun _ h => by cases h) (by kernel_rfl) (fun _ h => by cases h) syntaxPatterns_row_tie rfl ⟨rfl, rfl⟩ (by kernel_rfl) rfl syntaxPatterns_plain (by kernel_rfl)
end Go.Proofs.YtefenbonjepjgaaGreatDoor
