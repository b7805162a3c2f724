/-
  What is wrong with a record's properties: mayHold, declaredBy, checkProps.
-/
import Derived.Test.YtmioohbailhppaaDoorIdx
import Derived.Test.YtmioohbailhppaaDoorRit
import Derived.Test.YtmioohbailhppaaDoorTbs
import Derived.Lib.QuietBelow
import Derived.BigQuiet
namespace Go.Proofs.YtmioohbailhppaaDoor
open Go.RowKit Go.Sort
set_option linter.unusedSimpArgs false
set_option linter.unusedVariables false

instance : Inhabited VV := ⟨⟨0, false, 0, ⟨#[]⟩, none, 0, 0, []⟩⟩
/-- A property of a record. -/
structure PV where
  n : ByteArray
  v : VV
instance : Inhabited PV := ⟨⟨⟨#[]⟩, default⟩⟩
structure PVAt (w : World) (g o : Nat) (x : PV) : Prop where
  c0 : w.cell? ⟨g, o, none⟩ = some (.string x.n)
  c1 : w.cell? ⟨g, o + 1, none⟩ = some (.int .i64 x.v.k)
  c2 : w.cell? ⟨g, o + 2, none⟩ = some (.bool x.v.b)
  c3 : w.cell? ⟨g, o + 3, none⟩ = some (.int .i64 x.v.n)
  c4 : w.cell? ⟨g, o + 4, none⟩ = some (.string x.v.s)
  c5 : w.cell? ⟨g, o + 5, none⟩ = some (.slice x.v.p x.v.l x.v.c)
  nz : x.n.size ≤ maxLen
  sz : x.v.s.size ≤ maxLen
  ln : x.v.z.length = x.v.l
  pth : PathAt w x.v.p x.v.z
theorem PVAt.below {w w' : World} {g o : Nat} {x : PV} (h : PVAt w g o x) (hb : Below w.heap.size w w') : PVAt w' g o x :=
  { h with
    c0 := (hb.cell (World.block_lt_of_cell? w _ h.c0)).trans h.c0
    c1 := (hb.cell (World.block_lt_of_cell? w _ h.c1)).trans h.c1
    c2 := (hb.cell (World.block_lt_of_cell? w _ h.c2)).trans h.c2
    c3 := (hb.cell (World.block_lt_of_cell? w _ h.c3)).trans h.c3
    c4 := (hb.cell (World.block_lt_of_cell? w _ h.c4)).trans h.c4
    c5 := (hb.cell (World.block_lt_of_cell? w _ h.c5)).trans h.c5
    pth := h.pth.below hb }
/-- A list of properties of a record. -/
def PVsAt (w : World) (a : Option Addr) (L : List PV) : Prop :=
  L = [] ∨ ∃ g off, a = some ⟨g, off, none⟩ ∧ ∀ i, i < L.length → PVAt w g (off + i * 6) (L.getD i default)
theorem PVsAt.below {w w' : World} {a : Option Addr} {L : List PV} (h : PVsAt w a L) (hb : Below w.heap.size w w') : PVsAt w' a L := by
  rcases h with h | ⟨g, off, e, h⟩
  · exact .inl h
  · exact .inr ⟨g, off, e, fun i hi => (h i hi).below hb⟩

/-- May a property of a kind be that? -/
def holdB (K : Int) (v : VV) : Bool := rgtB v.k v.b v.n v.s v.l v.z (Lib.validD v.s.data.toList) && (decide (v.k = 0) || decide (v.k = K))
set_option maxRecDepth 100000 in
theorem mayHold_any (K : Int) (v : VV) (w : World) (sz : v.s.size ≤ maxLen) (ln : v.z.length = v.l) (pth : PathAt w v.p v.z) (hT : Tabs w) :
    Calls Tryd.prog 61 #[.int .i64 K, .agg #[.int .i64 v.k, .bool v.b, .int .i64 v.n, .string v.s, .slice v.p v.l v.c]] w fun e w' => e = .returned (.bool (holdB K v)) ∧ Below w.heap.size w w' := by
  unfold holdB
  have hR := fun w a (b : Tabs w) => Right_any v.k v.b v.n v.s v.p v.l v.c v.z (Lib.validD v.s.data.toList) w ln a (valid_any v.s sz w b)
  generalize rgtB v.k v.b v.n v.s v.l v.z (Lib.validD v.s.data.toList) = r at hR ⊢
  have hb0 := below_new w (.cells #[.int .i64 v.k, .bool v.b, .int .i64 v.n, .string v.s, .slice v.p v.l v.c] 100)
  have hbx := BoxAt.new w v.k v.b v.n v.s v.p v.l v.c rfl
  have g1 := pth.below hb0
  have g2 := hT.below hb0
  replace hR : Hid _ := hR
  obtain ⟨c0, c1, c2, c3, c4, -⟩ := hbx
  go_enter Tryd.func61, Tryd.ntmps61
  go_wp2_with (go_at_call 69; refine Calls.mono (hR.out _ g1 g2) ?_; rintro e w1 ⟨rfl, hb1⟩; replace c0 := (hb1.cell (World.block_lt_of_cell? _ _ c0)).trans c0)
  all_goals (go_returns; refine ⟨?_, below_on hb0 hb1⟩; first | rfl | (simp_all; done) | (simp_all; rw [Bool.eq_iff_iff]; simp_all; done))

set_option maxRecDepth 100000 in
theorem declaredBy_any (a : Option Addr) (n c : Nat) (L : List TD) (s : ByteArray) (w : World) (hn : L.length = n) (hm : n ≤ maxLen) (hL : TDsAt w a L) (j : Nat) (hj : firstAt (fun x => decide (x.n = s)) L = j) :
    Calls Tryd.prog 41 #[.slice a n c, .string s] w fun e w' => e = .returned (.slice (L.getD j default).p (L.getD j default).l (L.getD j default).c) ∧ Below w.heap.size w w' := by
  have hlo := firstAt_lo (fun x : TD => decide (x.n = s)) L
  rw [hj] at hlo
  have hT := fun w h => typeAt_any a n c L s w hn hm h
  rw [hj] at hT
  replace hT : Hid _ := hT
  have hL0 := hL
  rcases hL with rfl | ⟨x, o, rfl, hx⟩
  · simp at hlo; omega
  have hxj := (hx j (by omega)).c1
  generalize L.getD j default = X at hxj ⊢
  have hjn : j < n := by omega
  clear hx hlo
  go_enter Tryd.func41, Tryd.ntmps41
  go_wp2_with (go_at_call 36; refine Calls.mono (hT.out _ hL0) ?_; rintro e w1 ⟨rfl, hb1⟩; replace hxj := (hb1.cell (World.block_lt_of_cell? _ _ hxj)).trans hxj)
  go_returns
  exact ⟨by simp, hb1⟩

/-- May properties be, behind those that stood? -/
def goP (D : List PD) : List Nat → List PV → Bool
  | _, [] => true
  | st, x :: r => if firstAt (fun y => decide (y.n = x.n)) D < 0 then false else if (firstAt (fun y => decide (y.n = x.n)) D).toNat ∈ st then false else if holdB (D.getD (firstAt (fun y => decide (y.n = x.n)) D).toNat default).k x.v = false then false else goP D ((firstAt (fun y => decide (y.n = x.n)) D).toNat :: st) r
/-- What is wrong with properties; 0: nothing. -/
def propsErr (D : List PD) (L : List PV) : Int := if goP D [] L then 0 else 47
theorem goP_at (D : List PD) (st : List Nat) (L : List PV) (j : Nat) (hj : j < L.length) : goP D st (L.drop j) = goP D st (L.getD j default :: L.drop (j + 1)) := by
  rw [List.drop_eq_getElem_cons hj]
  simp [List.getD, List.getElem?_eq_getElem hj]
/-- Which of them stood. -/
def StoodAt (w : World) (B : Nat) (st : List Nat) : Prop := ∀ i, i < 32 → w.cell? ⟨B, i, none⟩ = some (.bool (decide (i ∈ st))) ∧ w.frozen? ⟨B, i, none⟩ = false
theorem StoodAt.below {w w' : World} {B : Nat} {st : List Nat} (h : StoodAt w B st) (hb : Below w.heap.size w w') : StoodAt w' B st := fun i hi =>
  ⟨(hb.cell (p := ⟨B, i, none⟩) (World.block_lt_of_cell? w _ (h i hi).1)).trans (h i hi).1, (hb.frozen (p := ⟨B, i, none⟩) (World.block_lt_of_cell? w _ (h i hi).1)).trans (h i hi).2⟩
theorem StoodAt.put {w : World} {B : Nat} {st : List Nat} (h : StoodAt w B st) (q : Nat) (hq : q < 32) : StoodAt (w.setCell ⟨B, q, none⟩ (.bool true)) B (q :: st) := fun i hi => by
  refine ⟨?_, by simpa using (h i hi).2⟩
  by_cases e : i = q
  · subst e
    rw [World.cell?_setCell_same _ _ _ (h i hi).1]
    simp
  · rw [World.cell?_setCell_other _ _ _ _ (fun e' => e (by cases e'; rfl)), (h i hi).1]
    simp [e]
theorem stood_new (w : World) : StoodAt (w.alloc (.cells #[.bool false, .bool false, .bool false, .bool false, .bool false, .bool false, .bool false, .bool false, .bool false, .bool false, .bool false, .bool false, .bool false, .bool false, .bool false, .bool false, .bool false, .bool false, .bool false, .bool false, .bool false, .bool false, .bool false, .bool false, .bool false, .bool false, .bool false, .bool false, .bool false, .bool false, .bool false, .bool false] 110)) w.heap.size [] := by
  intro i hi
  simp only [World.cell?, World.frozen?, heap_alloc_new]
  have : i = 0 ∨ i = 1 ∨ i = 2 ∨ i = 3 ∨ i = 4 ∨ i = 5 ∨ i = 6 ∨ i = 7 ∨ i = 8 ∨ i = 9 ∨ i = 10 ∨ i = 11 ∨ i = 12 ∨ i = 13 ∨ i = 14 ∨ i = 15 ∨ i = 16 ∨ i = 17 ∨ i = 18 ∨ i = 19 ∨ i = 20 ∨ i = 21 ∨ i = 22 ∨ i = 23 ∨ i = 24 ∨ i = 25 ∨ i = 26 ∨ i = 27 ∨ i = 28 ∨ i = 29 ∨ i = 30 ∨ i = 31 := by omega
  rcases this with rfl | rfl | rfl | rfl | rfl | rfl | rfl | rfl | rfl | rfl | rfl | rfl | rfl | rfl | rfl | rfl | rfl | rfl | rfl | rfl | rfl | rfl | rfl | rfl | rfl | rfl | rfl | rfl | rfl | rfl | rfl | rfl <;> exact ⟨rfl, rfl⟩

theorem len110 : Tryd.prog.arrayLen 110 = 32 := by kernel_rfl
theorem el110 : Tryd.prog.elem 110 = 4 := by kernel_rfl
theorem index110 (B u : Nat) (hu : u < 32) (w : World) : (Instr.indexAt 110 (.pointer (some ⟨B, 0, none⟩)) (.int .i64 (u : Int))).run Tryd.prog w = .ok (.pointer (some ⟨B, u, none⟩)) w := by
  rw [run_indexAt_array w 110 ⟨B, 0, none⟩ .i64 u (by rw [len110, el110]; exact Tryd.underlying110)]
  rw [len110, el110]
  have : (u : Int) < 32 := by omega
  simp [this, add_plain, Tryd.sizeOf4, Result.andThen]

set_option maxRecDepth 100000 in
set_option maxHeartbeats 4000000 in
theorem checkProps_any (a : Option Addr) (n c : Nat) (D : List PD) (va : Option Addr) (vn vc : Nat) (L : List PV) (w : World) (hn : D.length = n) (hm : n ≤ 32) (hD : PDsAt w a D) (hv : L.length = vn) (hvm : vn ≤ maxLen) (hL : PVsAt w va L) (hT : Tabs w) :
    Calls Tryd.prog 40 #[.slice a n c, .slice va vn vc] w fun e w' => e = .returned (.int .i64 (propsErr D L)) ∧ Below w.heap.size w w' := by
  have hP := fun s w' (hb : Below w.heap.size w w') => propAt_any a n c D s w' hn (by unfold maxLen; omega) (hD.below hb)
  have hb0 := below_new w (.cells #[.bool false, .bool false, .bool false, .bool false, .bool false, .bool false, .bool false, .bool false, .bool false, .bool false, .bool false, .bool false, .bool false, .bool false, .bool false, .bool false, .bool false, .bool false, .bool false, .bool false, .bool false, .bool false, .bool false, .bool false, .bool false, .bool false, .bool false, .bool false, .bool false, .bool false, .bool false, .bool false] 110)
  have hs0 := stood_new w
  unfold maxLen at hvm
  have hE : propsErr D L = if goP D [] L then 0 else 47 := rfl
  generalize propsErr D L = E at hE ⊢
  replace hE : Hid _ := hE
  replace hP : Hid _ := hP
  go_enter Tryd.func40, Tryd.ntmps40
  go_wp2_with fail
  go_loopw [11] (fun i wr => Below w.heap.size w wr ∧ ∃ (j : Nat) (st : List Nat), j ≤ vn ∧ i = .int .i64 j ∧ StoodAt wr w.heap.size st ∧ goP D st (L.drop j) = goP D [] L) (fun i _ => vn - (intOf i).toNat)
  case atStart => exact ⟨hb0, 0, [], by omega, rfl, hs0, by simp⟩
  case round =>
    obtain ⟨hb, j, st, j1, rfl, hst, hg⟩ := hrel
    clear hb0 hs0
    by_cases hj : j < vn
    · have hLr := hL.below hb
      have hTr := hT.below hb
      have hDr := hD.below hb
      rcases hLr with rfl | ⟨y, q, rfl, hyy⟩
      · simp at hv; omega
      have hyj := hyy j (by omega)
      rw [goP_at D st L j (by omega)] at hg
      generalize L.getD j default = X at hyj hg
      obtain ⟨m0, m1, m2, m3, m4, m5, nz, sz, ln, pth⟩ := hyj
      have hlo := firstAt_lo (fun y : PD => decide (y.n = X.n)) D
      have hP2 := hP.out X.n
      rw [goP] at hg
      have hbA := below_new wr (.cells #[.string X.n, .int .i64 X.v.k, .bool X.v.b, .int .i64 X.v.n, .string X.v.s, .slice X.v.p X.v.l X.v.c] 102)
      have q0 : (wr.alloc (.cells #[.string X.n, .int .i64 X.v.k, .bool X.v.b, .int .i64 X.v.n, .string X.v.s, .slice X.v.p X.v.l X.v.c] 102)).cell? ⟨wr.heap.size, 0, none⟩ = some (.string X.n) := by simp only [World.cell?, heap_alloc_new]; simp
      have q1 : (wr.alloc (.cells #[.string X.n, .int .i64 X.v.k, .bool X.v.b, .int .i64 X.v.n, .string X.v.s, .slice X.v.p X.v.l X.v.c] 102)).cell? ⟨wr.heap.size, 1, none⟩ = some (.int .i64 X.v.k) := by simp only [World.cell?, heap_alloc_new]; simp
      have q2 : (wr.alloc (.cells #[.string X.n, .int .i64 X.v.k, .bool X.v.b, .int .i64 X.v.n, .string X.v.s, .slice X.v.p X.v.l X.v.c] 102)).cell? ⟨wr.heap.size, 2, none⟩ = some (.bool X.v.b) := by simp only [World.cell?, heap_alloc_new]; simp
      have q3 : (wr.alloc (.cells #[.string X.n, .int .i64 X.v.k, .bool X.v.b, .int .i64 X.v.n, .string X.v.s, .slice X.v.p X.v.l X.v.c] 102)).cell? ⟨wr.heap.size, 3, none⟩ = some (.int .i64 X.v.n) := by simp only [World.cell?, heap_alloc_new]; simp
      have q4 : (wr.alloc (.cells #[.string X.n, .int .i64 X.v.k, .bool X.v.b, .int .i64 X.v.n, .string X.v.s, .slice X.v.p X.v.l X.v.c] 102)).cell? ⟨wr.heap.size, 4, none⟩ = some (.string X.v.s) := by simp only [World.cell?, heap_alloc_new]; simp
      have q5 : (wr.alloc (.cells #[.string X.n, .int .i64 X.v.k, .bool X.v.b, .int .i64 X.v.n, .string X.v.s, .slice X.v.p X.v.l X.v.c] 102)).cell? ⟨wr.heap.size, 5, none⟩ = some (.slice X.v.p X.v.l X.v.c) := by simp only [World.cell?, heap_alloc_new]; simp
      have hst2 := hst.below hbA
      have hTA := hTr.below hbA
      have hpA := pth.below hbA
      clear hyy hP
      by_cases hr : firstAt (fun y => decide (y.n = X.n)) D < 0
      · rw [if_pos hr] at hg
        generalize firstAt (fun y => decide (y.n = X.n)) D = r at hr hP2
        replace hP2 : Hid _ := hP2
        replace hg : Hid _ := hg
        replace hst2 : Hid _ := hst2
        clear hlo hDr
        go_wp2_with (go_at_call 37; refine Calls.mono (hP2.out _ (below_on hb hbA)) ?_; rintro e W0 ⟨rfl, hbB⟩)
        refine wp_region_quiet_below (by kernel_rfl) (by kernel_rfl) ?_
        repeat (first | go_big_quiet_step (fail) | quiet_step (fail))
        refine wpQuiet_nil ?_
        intro _ hw'
        obtain ⟨⟨dq, osq⟩, hw''⟩ := hw'
        subst hw''
        have hb5 : Below w.heap.size w (grow (redrawn W0 dq) osq) := below_on hb (below_on hbA (below_on hbB (below_regrown W0 dq osq)))
        generalize grow (redrawn W0 dq) osq = w3 at *
        go_wp2_with fail
        all_goals first | (exfalso; omega) | (go_returns; exact ⟨by rw [hE.out, ← hg.out]; rfl, hb5⟩)
      rw [if_neg hr] at hg
      obtain ⟨u, hu⟩ : ∃ u : Nat, firstAt (fun y => decide (y.n = X.n)) D = u := ⟨(firstAt (fun y => decide (y.n = X.n)) D).toNat, by omega⟩
      rw [hu, Int.toNat_natCast] at hg
      rw [hu] at hP2 hlo
      clear hu hr
      rcases hDr with rfl | ⟨da, dof, rfl, hdd⟩
      · simp at hlo; omega
      have hku := (hdd u (by omega)).c1
      have hun : u < n := by omega
      have hu32 : u < 32 := by omega
      generalize (D.getD u default).k = K at hku hg
      have hH := fun w a b => mayHold_any K X.v w sz ln a b
      generalize holdB K X.v = hb? at hH hg
      clear hdd
      replace hku := cell_keep (.cells #[.string X.n, .int .i64 X.v.k, .bool X.v.b, .int .i64 X.v.n, .string X.v.s, .slice X.v.p X.v.l X.v.c] 102) hku
      have hcu := (hst2 u hu32).1
      have hcf := (hst2 u hu32).2
      replace hP2 : Hid _ := hP2
      replace hH : Hid _ := hH
      have hix := fun w' => index110 w.heap.size u hu32 w'
      have hbit : u ∈ st ∨ u ∉ st ∧ hb? = false ∨ u ∉ st ∧ hb? = true := by by_cases h : u ∈ st <;> cases hb? <;> simp [h]
      rcases hbit with hin | ⟨hin, rfl⟩ | ⟨hin, rfl⟩
      · rw [if_pos hin] at hg
        rw [decide_eq_true hin] at hcu
        replace hg : Hid _ := hg
        replace hst2 : Hid _ := hst2
        go_wp2_with (go_at_call 37; refine Calls.mono (hP2.out _ (below_on hb hbA)) ?_; rintro e W0 ⟨rfl, hbB⟩)
        have cH : ∀ d os, Calls Tryd.prog 61 #[.int .i64 K, .agg #[.int .i64 X.v.k, .bool X.v.b, .int .i64 X.v.n, .string X.v.s, .slice X.v.p X.v.l X.v.c]] (grow (redrawn W0 d) os) fun e w'' => e = .returned (.bool _) ∧ ∃ p : Regrown, w'' = grow (redrawn W0 p.d) p.os := fun d os => Calls.regrown_of (hH.out _ ((hpA.below hbB).below (below_regrown W0 d os)) ((hTA.below hbB).below (below_regrown W0 d os)))
        have e0 := cell_regrown ((hbB.cell (World.block_lt_of_cell? _ _ q0)).trans q0)
        have e1 := cell_regrown ((hbB.cell (World.block_lt_of_cell? _ _ q1)).trans q1)
        have e2 := cell_regrown ((hbB.cell (World.block_lt_of_cell? _ _ q2)).trans q2)
        have e3 := cell_regrown ((hbB.cell (World.block_lt_of_cell? _ _ q3)).trans q3)
        have e4 := cell_regrown ((hbB.cell (World.block_lt_of_cell? _ _ q4)).trans q4)
        have e5 := cell_regrown ((hbB.cell (World.block_lt_of_cell? _ _ q5)).trans q5)
        have e6 := cell_regrown ((hbB.cell (World.block_lt_of_cell? _ _ hku)).trans hku)
        have e7 := cell_regrown ((hbB.cell (World.block_lt_of_cell? _ _ hcu)).trans hcu)
        have hst3 := StoodAt.below hst2.out hbB
        replace cH : Hid _ := cH
        replace hst3 : Hid _ := hst3
        refine wp_region_quiet_below (by kernel_rfl) (by kernel_rfl) ?_
        repeat (first | go_big_quiet_step (exact cH.out _ _) | quiet_step (exact cH.out _ _))
        refine wpQuiet_nil ?_
        intro _ hw'
        obtain ⟨⟨dq, osq⟩, hw''⟩ := hw'
        subst hw''
        have hb5 : Below w.heap.size w (grow (redrawn W0 dq) osq) := below_on hb (below_on hbA (below_on hbB (below_regrown W0 dq osq)))
        have hst4 := StoodAt.below hst3.out (below_regrown W0 dq osq)
        have hcv := (hst4 u hu32).1
        have hcw := (hst4 u hu32).2
        replace hst4 : Hid _ := hst4
        clear e0 e1 e2 e3 e4 e5 e6 e7 cH hst3
        generalize grow (redrawn W0 dq) osq = w3 at *
        go_wp2_with fail
        all_goals first | (exfalso; omega) | (go_returns; exact ⟨by rw [hE.out, ← hg.out]; rfl, hb5⟩)
      · rw [if_neg hin, if_pos rfl] at hg
        rw [decide_eq_false hin] at hcu
        replace hg : Hid _ := hg
        replace hst2 : Hid _ := hst2
        go_wp2_with (go_at_call 37; refine Calls.mono (hP2.out _ (below_on hb hbA)) ?_; rintro e W0 ⟨rfl, hbB⟩)
        have cH : ∀ d os, Calls Tryd.prog 61 #[.int .i64 K, .agg #[.int .i64 X.v.k, .bool X.v.b, .int .i64 X.v.n, .string X.v.s, .slice X.v.p X.v.l X.v.c]] (grow (redrawn W0 d) os) fun e w'' => e = .returned (.bool _) ∧ ∃ p : Regrown, w'' = grow (redrawn W0 p.d) p.os := fun d os => Calls.regrown_of (hH.out _ ((hpA.below hbB).below (below_regrown W0 d os)) ((hTA.below hbB).below (below_regrown W0 d os)))
        have e0 := cell_regrown ((hbB.cell (World.block_lt_of_cell? _ _ q0)).trans q0)
        have e1 := cell_regrown ((hbB.cell (World.block_lt_of_cell? _ _ q1)).trans q1)
        have e2 := cell_regrown ((hbB.cell (World.block_lt_of_cell? _ _ q2)).trans q2)
        have e3 := cell_regrown ((hbB.cell (World.block_lt_of_cell? _ _ q3)).trans q3)
        have e4 := cell_regrown ((hbB.cell (World.block_lt_of_cell? _ _ q4)).trans q4)
        have e5 := cell_regrown ((hbB.cell (World.block_lt_of_cell? _ _ q5)).trans q5)
        have e6 := cell_regrown ((hbB.cell (World.block_lt_of_cell? _ _ hku)).trans hku)
        have e7 := cell_regrown ((hbB.cell (World.block_lt_of_cell? _ _ hcu)).trans hcu)
        have hst3 := StoodAt.below hst2.out hbB
        replace cH : Hid _ := cH
        replace hst3 : Hid _ := hst3
        refine wp_region_quiet_below (by kernel_rfl) (by kernel_rfl) ?_
        repeat (first | go_big_quiet_step (exact cH.out _ _) | quiet_step (exact cH.out _ _))
        refine wpQuiet_nil ?_
        intro _ hw'
        obtain ⟨⟨dq, osq⟩, hw''⟩ := hw'
        subst hw''
        have hb5 : Below w.heap.size w (grow (redrawn W0 dq) osq) := below_on hb (below_on hbA (below_on hbB (below_regrown W0 dq osq)))
        have hst4 := StoodAt.below hst3.out (below_regrown W0 dq osq)
        have hcv := (hst4 u hu32).1
        have hcw := (hst4 u hu32).2
        replace hst4 : Hid _ := hst4
        clear e0 e1 e2 e3 e4 e5 e6 e7 cH hst3
        generalize grow (redrawn W0 dq) osq = w3 at *
        go_wp2_with fail
        all_goals first | (exfalso; omega) | (go_returns; exact ⟨by rw [hE.out, ← hg.out]; rfl, hb5⟩)
      · rw [if_neg hin, if_neg (by decide)] at hg
        rw [decide_eq_false hin] at hcu
        replace hg : Hid _ := hg
        replace hst2 : Hid _ := hst2
        go_wp2_with (go_at_call 37; refine Calls.mono (hP2.out _ (below_on hb hbA)) ?_; rintro e W0 ⟨rfl, hbB⟩)
        have cH : ∀ d os, Calls Tryd.prog 61 #[.int .i64 K, .agg #[.int .i64 X.v.k, .bool X.v.b, .int .i64 X.v.n, .string X.v.s, .slice X.v.p X.v.l X.v.c]] (grow (redrawn W0 d) os) fun e w'' => e = .returned (.bool _) ∧ ∃ p : Regrown, w'' = grow (redrawn W0 p.d) p.os := fun d os => Calls.regrown_of (hH.out _ ((hpA.below hbB).below (below_regrown W0 d os)) ((hTA.below hbB).below (below_regrown W0 d os)))
        have e0 := cell_regrown ((hbB.cell (World.block_lt_of_cell? _ _ q0)).trans q0)
        have e1 := cell_regrown ((hbB.cell (World.block_lt_of_cell? _ _ q1)).trans q1)
        have e2 := cell_regrown ((hbB.cell (World.block_lt_of_cell? _ _ q2)).trans q2)
        have e3 := cell_regrown ((hbB.cell (World.block_lt_of_cell? _ _ q3)).trans q3)
        have e4 := cell_regrown ((hbB.cell (World.block_lt_of_cell? _ _ q4)).trans q4)
        have e5 := cell_regrown ((hbB.cell (World.block_lt_of_cell? _ _ q5)).trans q5)
        have e6 := cell_regrown ((hbB.cell (World.block_lt_of_cell? _ _ hku)).trans hku)
        have e7 := cell_regrown ((hbB.cell (World.block_lt_of_cell? _ _ hcu)).trans hcu)
        have hst3 := StoodAt.below hst2.out hbB
        replace cH : Hid _ := cH
        replace hst3 : Hid _ := hst3
        refine wp_region_quiet_below (by kernel_rfl) (by kernel_rfl) ?_
        repeat (first | go_big_quiet_step (exact cH.out _ _) | quiet_step (exact cH.out _ _))
        refine wpQuiet_nil ?_
        intro _ hw'
        obtain ⟨⟨dq, osq⟩, hw''⟩ := hw'
        subst hw''
        have hb5 : Below w.heap.size w (grow (redrawn W0 dq) osq) := below_on hb (below_on hbA (below_on hbB (below_regrown W0 dq osq)))
        have hst4 := StoodAt.below hst3.out (below_regrown W0 dq osq)
        have hcv := (hst4 u hu32).1
        have hcw := (hst4 u hu32).2
        replace hst4 : Hid _ := hst4
        clear e0 e1 e2 e3 e4 e5 e6 e7 cH hst3
        generalize grow (redrawn W0 dq) osq = w3 at *
        go_wp2_with fail
        go_roundw
        case rel => exact ⟨hb5.setCell (Nat.le_refl _) _, j + 1, u :: st, by omega, rfl, StoodAt.put hst4.out u hu32, hg.out⟩
        case measure =>
          show vn - ((j : Int) + 1).toNat < vn - (j : Int).toNat
          omega
    · rw [List.drop_eq_nil_of_le (by omega)] at hg
      replace hg : Hid _ := hg
      go_wp2_with fail
      go_returns
      exact ⟨by rw [hE.out, ← hg.out]; rfl, hb⟩
end Go.Proofs.YtmioohbailhppaaDoor
