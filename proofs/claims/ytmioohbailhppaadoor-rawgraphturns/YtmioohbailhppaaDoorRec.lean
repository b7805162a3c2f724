/-
  What is wrong with a node, with an edge: checkNode, checkEdge.
-/
import Derived.Test.YtmioohbailhppaaDoorSeen
import Derived.Test.YtmioohbailhppaaDoorPrp
namespace Go.Proofs.YtmioohbailhppaaDoor
open Go.RowKit Go.Sort
set_option linter.unusedSimpArgs false
set_option linter.unusedVariables false

/-- A node as it is handed in. -/
structure ND where
  id : Int
  lab : ByteArray
  p : Option Addr
  l : Nat
  c : Nat
  ps : List PV
instance : Inhabited ND := ⟨⟨0, ⟨#[]⟩, none, 0, 0, []⟩⟩
/-- An edge as it is handed in. -/
structure ED where
  id : Int
  lab : ByteArray
  fr : Int
  tt : Int
  p : Option Addr
  l : Nat
  c : Nat
  ps : List PV
instance : Inhabited ED := ⟨⟨0, ⟨#[]⟩, 0, 0, none, 0, 0, []⟩⟩
def I64 (z : Int) : Prop := -9223372036854775808 ≤ z ∧ z ≤ 9223372036854775807
structure NDAt (w : World) (g o : Nat) (x : ND) : Prop where
  c0 : w.cell? ⟨g, o, none⟩ = some (.int .i64 x.id)
  c1 : w.cell? ⟨g, o + 1, none⟩ = some (.string x.lab)
  c2 : w.cell? ⟨g, o + 2, none⟩ = some (.slice x.p x.l x.c)
  iz : I64 x.id
  sz : x.lab.size ≤ maxLen
  ln : x.ps.length = x.l
  lm : x.l ≤ maxLen
  ps : PVsAt w x.p x.ps
structure EDAt (w : World) (g o : Nat) (x : ED) : Prop where
  c0 : w.cell? ⟨g, o, none⟩ = some (.int .i64 x.id)
  c1 : w.cell? ⟨g, o + 1, none⟩ = some (.string x.lab)
  c2 : w.cell? ⟨g, o + 2, none⟩ = some (.int .i64 x.fr)
  c3 : w.cell? ⟨g, o + 3, none⟩ = some (.int .i64 x.tt)
  c4 : w.cell? ⟨g, o + 4, none⟩ = some (.slice x.p x.l x.c)
  iz : I64 x.id
  fz : I64 x.fr
  tz : I64 x.tt
  sz : x.lab.size ≤ maxLen
  ln : x.ps.length = x.l
  lm : x.l ≤ maxLen
  ps : PVsAt w x.p x.ps
theorem NDAt.below {w w' : World} {g o : Nat} {x : ND} (h : NDAt w g o x) (hb : Below w.heap.size w w') : NDAt w' g o x :=
  { h with
    c0 := (hb.cell (World.block_lt_of_cell? w _ h.c0)).trans h.c0
    c1 := (hb.cell (World.block_lt_of_cell? w _ h.c1)).trans h.c1
    c2 := (hb.cell (World.block_lt_of_cell? w _ h.c2)).trans h.c2
    ps := h.ps.below hb }
theorem EDAt.below {w w' : World} {g o : Nat} {x : ED} (h : EDAt w g o x) (hb : Below w.heap.size w w') : EDAt w' g o x :=
  { h with
    c0 := (hb.cell (World.block_lt_of_cell? w _ h.c0)).trans h.c0
    c1 := (hb.cell (World.block_lt_of_cell? w _ h.c1)).trans h.c1
    c2 := (hb.cell (World.block_lt_of_cell? w _ h.c2)).trans h.c2
    c3 := (hb.cell (World.block_lt_of_cell? w _ h.c3)).trans h.c3
    c4 := (hb.cell (World.block_lt_of_cell? w _ h.c4)).trans h.c4
    ps := h.ps.below hb }
def NDsAt (w : World) (a : Option Addr) (L : List ND) : Prop :=
  L = [] ∨ ∃ g off, a = some ⟨g, off, none⟩ ∧ ∀ i, i < L.length → NDAt w g (off + i * 3) (L.getD i default)
def EDsAt (w : World) (a : Option Addr) (L : List ED) : Prop :=
  L = [] ∨ ∃ g off, a = some ⟨g, off, none⟩ ∧ ∀ i, i < L.length → EDAt w g (off + i * 5) (L.getD i default)
theorem NDsAt.below {w w' : World} {a : Option Addr} {L : List ND} (h : NDsAt w a L) (hb : Below w.heap.size w w') : NDsAt w' a L := by
  rcases h with h | ⟨g, off, e, h⟩
  · exact .inl h
  · exact .inr ⟨g, off, e, fun i hi => (h i hi).below hb⟩
theorem EDsAt.below {w w' : World} {a : Option Addr} {L : List ED} (h : EDsAt w a L) (hb : Below w.heap.size w w') : EDsAt w' a L := by
  rcases h with h | ⟨g, off, e, h⟩
  · exact .inl h
  · exact .inr ⟨g, off, e, fun i hi => (h i hi).below hb⟩

/-- Where a label stands among types. -/
def labAt (L : List TD) (s : ByteArray) : Int := firstAt (fun x => decide (x.n = s)) L
/-- The properties that a label declares. -/
def declOf (L : List TD) (s : ByteArray) : List PD := (L.getD (labAt L s).toNat default).ps
def nodeErr (L : List TD) (ids : List Int) (x : ND) : Int := if takeErr L ids x.id x.lab = 0 then propsErr (declOf L x.lab) x.ps else takeErr L ids x.id x.lab
def edgeErr (L : List TD) (ids nids : List Int) (x : ED) : Int :=
  if takeErr L ids x.id x.lab = 0 then (if x.fr ∈ nids ∧ x.tt ∈ nids then propsErr (declOf L x.lab) x.ps else 46) else takeErr L ids x.id x.lab
theorem take_zero {L : List TD} {ids : List Int} {z : Int} {s : ByteArray} (h : takeErr L ids z s = 0) : 0 ≤ z ∧ z ≤ 1099511627776 ∧ z ∉ ids ∧ 0 ≤ labAt L s ∧ labAt L s < L.length := by
  unfold takeErr at h
  have hl := firstAt_lo (fun x : TD => decide (x.n = s)) L
  unfold labAt
  split at h
  · omega
  split at h
  · omega
  split at h
  · omega
  refine ⟨by omega, by omega, ‹_›, by omega, by omega⟩
/-- Types whose properties are no more than may be. -/
def Few (L : List TD) : Prop := ∀ i, i < L.length → (L.getD i default).ps.length ≤ 32

set_option maxRecDepth 100000 in
set_option maxHeartbeats 4000000 in
theorem checkNode_any (w0 : World) (s m : Nat) (a : Option Addr) (n c : Nat) (L : List TD) (ids : List Int) (x : ND) (w : World) (hb : Below w0.heap.size w0 w) (hs : SeenAt w s m a n c ids) (hsm : s ≠ m) (h0m : w0.heap.size ≤ m) (hn : L.length = n) (hm : n ≤ maxLen) (hL : TDsAt w0 a L) (hF : Few L) (hi : ids.length < maxLen) (hT : Tabs w0)
    (iz : I64 x.id) (ln : x.ps.length = x.l) (lm : x.l ≤ maxLen) (ps : PVsAt w0 x.p x.ps) :
    Calls Tryd.prog 23 #[.pointer (some ⟨s, 0, none⟩), .agg #[.int .i64 x.id, .string x.lab, .slice x.p x.l x.c]] w fun e w' => e = .returned (.int .i64 (nodeErr L ids x)) ∧ SetAt w' m (if takeErr L ids x.id x.lab = 0 then x.id :: ids else ids) ∧ Only (fun k => k = m) w w' := by
  have hK := fun w1 (hb1 : Below w0.heap.size w0 w1) h => take_any s m a n c L ids x.id x.lab w1 h iz hn hm (hL.below hb1) hi
  have hbA := below_new w (.cells #[.int .i64 x.id, .string x.lab, .slice x.p x.l x.c] 44)
  have hb1 := hb.trans (hbA.mono hb.size)
  have q0 : (w.alloc (.cells #[.int .i64 x.id, .string x.lab, .slice x.p x.l x.c] 44)).cell? ⟨w.heap.size, 0, none⟩ = some (.int .i64 x.id) := by simp only [World.cell?, heap_alloc_new]; simp
  have q1 : (w.alloc (.cells #[.int .i64 x.id, .string x.lab, .slice x.p x.l x.c] 44)).cell? ⟨w.heap.size, 1, none⟩ = some (.string x.lab) := by simp only [World.cell?, heap_alloc_new]; simp
  have q2 : (w.alloc (.cells #[.int .i64 x.id, .string x.lab, .slice x.p x.l x.c] 44)).cell? ⟨w.heap.size, 2, none⟩ = some (.slice x.p x.l x.c) := by simp only [World.cell?, heap_alloc_new]; simp
  have hs1 := hs.below hbA
  have hne : w.heap.size ≠ m := by have := hs.set.lt; omega
  have hz := @take_zero L ids x.id x.lab
  unfold nodeErr
  by_cases ht : takeErr L ids x.id x.lab = 0
  case neg =>
    rw [if_neg ht, if_neg ht]
    simp only [if_neg ht] at hK
    generalize takeErr L ids x.id x.lab = E at ht hK ⊢
    have htb : (E != 0) = true := by simpa using ht
    replace hK : Hid _ := hK
    clear hz ht
    go_enter Tryd.func23, Tryd.ntmps23
    go_wp2_with (go_at_call 39; refine Calls.mono (hK.out _ hb1 hs1) ?_; rintro e w1 ⟨rfl, hset, hO⟩)
    all_goals first | (exfalso; simp_all; done) | (go_returns; exact ⟨by simp, hset, (Below.only _ hbA).trans hO (fun _ _ h => h)⟩)
  rw [if_pos ht, if_pos ht]
  simp only [if_pos ht] at hK
  rw [ht] at hK
  obtain ⟨z1, z2, z3, z4, z5⟩ := hz ht
  obtain ⟨u, hu⟩ : ∃ u : Nat, labAt L x.lab = u := ⟨(labAt L x.lab).toNat, by omega⟩
  have hD := fun w1 h => declaredBy_any a n c L x.lab w1 hn hm h u hu
  have hDe : declOf L x.lab = (L.getD u default).ps := by unfold declOf; rw [hu]; rfl
  rw [hDe]
  have hf := hF u (by omega)
  have hTu : (L.getD u default).ps.length = (L.getD u default).l ∧ PDsAt w0 (L.getD u default).p (L.getD u default).ps := by
    rcases hL with rfl | ⟨g, off, e, h⟩
    · simp at z5; omega
    · exact ⟨(h u (by omega)).ln, (h u (by omega)).ps⟩
  generalize L.getD u default = X at hD hf hTu ⊢
  have hC := fun w1 (hb1 : Below w0.heap.size w0 w1) => checkProps_any X.p X.l X.c X.ps x.p x.l x.c x.ps w1 hTu.1 (by omega) (hTu.2.below hb1) ln lm (ps.below hb1) (hT.below hb1)
  generalize propsErr X.ps x.ps = E at hC ⊢
  replace hK : Hid _ := hK
  replace hD : Hid _ := hD
  replace hC : Hid _ := hC
  clear hz z1 z2 z3 z4 z5 hu hDe hf hTu ht
  go_enter Tryd.func23, Tryd.ntmps23
  go_wp2_with (go_at_call 39; refine Calls.mono (hK.out _ hb1 hs1) ?_; rintro e w1 ⟨rfl, hset, hO⟩)
  have hs2 := hs1.with hO hsm hset
  have hb2 : Below w0.heap.size w0 w1 := hb1.trans (hO.below hb1.size (fun k e => by rw [e]; exact h0m))
  replace q1 := (cell_of_block (a := ⟨w.heap.size, 1, none⟩) (hO.block _ (World.block_lt_of_cell? _ _ q1) hne)).trans q1
  replace q2 := (cell_of_block (a := ⟨w.heap.size, 2, none⟩) (hO.block _ (World.block_lt_of_cell? _ _ q2) hne)).trans q2
  have cD : ∀ d os, Calls Tryd.prog 41 #[.slice a n c, .string x.lab] (grow (redrawn w1 d) os) fun e w'' => e = .returned _ ∧ ∃ p : Regrown, w'' = grow (redrawn w1 p.d) p.os := fun d os => Calls.regrown_of (hD.out _ (hL.below (hb2.trans ((below_regrown w1 d os).mono hb2.size))))
  have cC : ∀ d os, Calls Tryd.prog 40 #[.slice X.p X.l X.c, .slice x.p x.l x.c] (grow (redrawn w1 d) os) fun e w'' => e = .returned _ ∧ ∃ p : Regrown, w'' = grow (redrawn w1 p.d) p.os := fun d os => Calls.regrown_of (hC.out _ (hb2.trans ((below_regrown w1 d os).mono hb2.size)))
  have e0 := cell_regrown hs2.c0
  have e1 := cell_regrown q1
  have e2 := cell_regrown q2
  replace cD : Hid _ := cD
  replace cC : Hid _ := cC
  refine wp_region_quiet_below (by kernel_rfl) (by kernel_rfl) ?_
  repeat (first | go_big_quiet_step (first | exact cD.out _ _ | exact cC.out _ _) | quiet_step (first | exact cD.out _ _ | exact cC.out _ _))
  refine wpQuiet_nil ?_
  intro _ hw'
  obtain ⟨⟨dq, osq⟩, hw''⟩ := hw'
  subst hw''
  have hb5 := below_regrown w1 dq osq
  clear e0 e1 e2 cD cC
  generalize grow (redrawn w1 dq) osq = w3 at *
  go_wp2_with fail
  all_goals (go_returns; exact ⟨by simp, hset.below hb5, ((Below.only _ hbA).trans hO (fun _ _ h => h)).trans (Below.only _ hb5) (fun _ _ h => h)⟩)

set_option maxRecDepth 100000 in
set_option maxHeartbeats 4000000 in
theorem checkEdge_any (w0 : World) (s m : Nat) (a : Option Addr) (n c : Nat) (L : List TD) (ids : List Int) (sN mN : Nat) (aN : Option Addr) (nN cN : Nat) (nids : List Int) (x : ED) (w : World) (hb : Below w0.heap.size w0 w) (hs : SeenAt w s m a n c ids) (hsN : SeenAt w sN mN aN nN cN nids) (hsm : s ≠ m) (hsNm : sN ≠ m) (hmN : mN ≠ m) (h0m : w0.heap.size ≤ m) (hn : L.length = n) (hm : n ≤ maxLen) (hL : TDsAt w0 a L) (hF : Few L) (hi : ids.length < maxLen) (hT : Tabs w0)
    (iz : I64 x.id) (fz : I64 x.fr) (tz : I64 x.tt) (ln : x.ps.length = x.l) (lm : x.l ≤ maxLen) (ps : PVsAt w0 x.p x.ps) :
    Calls Tryd.prog 24 #[.pointer (some ⟨s, 0, none⟩), .pointer (some ⟨sN, 0, none⟩), .agg #[.int .i64 x.id, .string x.lab, .int .i64 x.fr, .int .i64 x.tt, .slice x.p x.l x.c]] w fun e w' => e = .returned (.int .i64 (edgeErr L ids nids x)) ∧ SetAt w' m (if takeErr L ids x.id x.lab = 0 then x.id :: ids else ids) ∧ Only (fun k => k = m) w w' := by
  have hK := fun w1 (hb1 : Below w0.heap.size w0 w1) h => take_any s m a n c L ids x.id x.lab w1 h iz hn hm (hL.below hb1) hi
  have hbA := below_new w (.cells #[.int .i64 x.id, .string x.lab, .int .i64 x.fr, .int .i64 x.tt, .slice x.p x.l x.c] 46)
  have hb1 := hb.trans (hbA.mono hb.size)
  have q0 : (w.alloc (.cells #[.int .i64 x.id, .string x.lab, .int .i64 x.fr, .int .i64 x.tt, .slice x.p x.l x.c] 46)).cell? ⟨w.heap.size, 0, none⟩ = some (.int .i64 x.id) := by simp only [World.cell?, heap_alloc_new]; simp
  have q1 : (w.alloc (.cells #[.int .i64 x.id, .string x.lab, .int .i64 x.fr, .int .i64 x.tt, .slice x.p x.l x.c] 46)).cell? ⟨w.heap.size, 1, none⟩ = some (.string x.lab) := by simp only [World.cell?, heap_alloc_new]; simp
  have q2 : (w.alloc (.cells #[.int .i64 x.id, .string x.lab, .int .i64 x.fr, .int .i64 x.tt, .slice x.p x.l x.c] 46)).cell? ⟨w.heap.size, 2, none⟩ = some (.int .i64 x.fr) := by simp only [World.cell?, heap_alloc_new]; simp
  have q3 : (w.alloc (.cells #[.int .i64 x.id, .string x.lab, .int .i64 x.fr, .int .i64 x.tt, .slice x.p x.l x.c] 46)).cell? ⟨w.heap.size, 3, none⟩ = some (.int .i64 x.tt) := by simp only [World.cell?, heap_alloc_new]; simp
  have q4 : (w.alloc (.cells #[.int .i64 x.id, .string x.lab, .int .i64 x.fr, .int .i64 x.tt, .slice x.p x.l x.c] 46)).cell? ⟨w.heap.size, 4, none⟩ = some (.slice x.p x.l x.c) := by simp only [World.cell?, heap_alloc_new]; simp
  have hs1 := hs.below hbA
  have hsN1 := hsN.below hbA
  have hne : w.heap.size ≠ m := by have := hs.set.lt; omega
  have hz := @take_zero L ids x.id x.lab
  unfold edgeErr
  by_cases ht : takeErr L ids x.id x.lab = 0
  case neg =>
    rw [if_neg ht, if_neg ht]
    simp only [if_neg ht] at hK
    generalize takeErr L ids x.id x.lab = E at ht hK ⊢
    have htb : (E != 0) = true := by simpa using ht
    replace hK : Hid _ := hK
    clear hz ht
    go_enter Tryd.func24, Tryd.ntmps24
    go_wp2_with (go_at_call 39; refine Calls.mono (hK.out _ hb1 hs1) ?_; rintro e w1 ⟨rfl, hset, hO⟩)
    all_goals first | (exfalso; simp_all; done) | (go_returns; exact ⟨by simp, hset, (Below.only _ hbA).trans hO (fun _ _ h => h)⟩)
  rw [if_pos ht, if_pos ht]
  simp only [if_pos ht] at hK
  rw [ht] at hK
  obtain ⟨z1, z2, z3, z4, z5⟩ := hz ht
  obtain ⟨u, hu⟩ : ∃ u : Nat, labAt L x.lab = u := ⟨(labAt L x.lab).toNat, by omega⟩
  have hD := fun w1 h => declaredBy_any a n c L x.lab w1 hn hm h u hu
  have hDe : declOf L x.lab = (L.getD u default).ps := by unfold declOf; rw [hu]; rfl
  rw [hDe]
  have hf := hF u (by omega)
  have hTu : (L.getD u default).ps.length = (L.getD u default).l ∧ PDsAt w0 (L.getD u default).p (L.getD u default).ps := by
    rcases hL with rfl | ⟨g, off, e, h⟩
    · simp at z5; omega
    · exact ⟨(h u (by omega)).ln, (h u (by omega)).ps⟩
  generalize L.getD u default = X at hD hf hTu ⊢
  have hC := fun w1 (hb1 : Below w0.heap.size w0 w1) => checkProps_any X.p X.l X.c X.ps x.p x.l x.c x.ps w1 hTu.1 (by omega) (hTu.2.below hb1) ln lm (ps.below hb1) (hT.below hb1)
  generalize propsErr X.ps x.ps = E at hC ⊢
  have hH1 := fun w1 h => has_any sN mN aN nN cN nids x.fr w1 h fz
  have hH2 := fun w1 h => has_any sN mN aN nN cN nids x.tt w1 h tz
  rw [show (if x.fr ∈ nids ∧ x.tt ∈ nids then E else 46) = if decide (x.fr ∈ nids) && decide (x.tt ∈ nids) then E else 46 by simp]
  generalize decide (x.fr ∈ nids) = b1 at hH1 ⊢
  generalize decide (x.tt ∈ nids) = b2 at hH2 ⊢
  replace hK : Hid _ := hK
  replace hD : Hid _ := hD
  replace hC : Hid _ := hC
  replace hH1 : Hid _ := hH1
  replace hH2 : Hid _ := hH2
  clear hz z1 z2 z3 z4 z5 hu hDe hf hTu ht
  have hbit : b1 = false ∨ b1 = true ∧ b2 = false ∨ b1 = true ∧ b2 = true := by cases b1 <;> cases b2 <;> simp
  rcases hbit with rfl | ⟨rfl, rfl⟩ | ⟨rfl, rfl⟩
  iterate 2
    · go_enter Tryd.func24, Tryd.ntmps24
      go_wp2_with (first
        | (go_at_call 39; refine Calls.mono (hK.out _ hb1 hs1) ?_; rintro e w1 ⟨rfl, hset, hO⟩; have hN1 := hsN1.only hO hsNm hmN; replace q2 := (cell_of_block (a := ⟨w.heap.size, 2, none⟩) (hO.block _ (World.block_lt_of_cell? _ _ q2) hne)).trans q2; replace q3 := (cell_of_block (a := ⟨w.heap.size, 3, none⟩) (hO.block _ (World.block_lt_of_cell? _ _ q3) hne)).trans q3; have hbF := Below.refl w1.heap.size w1)
        | (go_at_call 42; with_reducible refine Calls.mono (hH1.out _ hN1) ?_; rintro e w2 ⟨rfl, hb2⟩; replace hN1 := hN1.below hb2; replace q3 := (hb2.cell (World.block_lt_of_cell? _ _ q3)).trans q3; replace hbF := below_on hbF hb2; clear hb2)
        | (go_at_call 42; with_reducible refine Calls.mono (hH2.out _ hN1) ?_; rintro e w2 ⟨rfl, hb2⟩; replace hbF := below_on hbF hb2; clear hb2))
      all_goals first | (exfalso; simp_all; done) | (go_returns; exact ⟨by simp, hset.below hbF, ((Below.only _ hbA).trans hO (fun _ _ h => h)).trans (Below.only _ hbF) (fun _ _ h => h)⟩)
  go_enter Tryd.func24, Tryd.ntmps24
  go_wp2_with (first
    | (go_at_call 39; refine Calls.mono (hK.out _ hb1 hs1) ?_; rintro e w1 ⟨rfl, hset, hO⟩; have hN1 := hsN1.only hO hsNm hmN; replace q1 := (cell_of_block (a := ⟨w.heap.size, 1, none⟩) (hO.block _ (World.block_lt_of_cell? _ _ q1) hne)).trans q1; replace q2 := (cell_of_block (a := ⟨w.heap.size, 2, none⟩) (hO.block _ (World.block_lt_of_cell? _ _ q2) hne)).trans q2; replace q3 := (cell_of_block (a := ⟨w.heap.size, 3, none⟩) (hO.block _ (World.block_lt_of_cell? _ _ q3) hne)).trans q3; replace q4 := (cell_of_block (a := ⟨w.heap.size, 4, none⟩) (hO.block _ (World.block_lt_of_cell? _ _ q4) hne)).trans q4; have hbF := Below.refl w1.heap.size w1)
    | (go_at_call 42; with_reducible refine Calls.mono (hH1.out _ hN1) ?_; rintro e w2 ⟨rfl, hb2⟩; replace hN1 := hN1.below hb2; replace q3 := (hb2.cell (World.block_lt_of_cell? _ _ q3)).trans q3; replace q4 := (hb2.cell (World.block_lt_of_cell? _ _ q4)).trans q4; replace q1 := (hb2.cell (World.block_lt_of_cell? _ _ q1)).trans q1; replace hbF := below_on hbF hb2; clear hb2)
    | (go_at_call 42; with_reducible refine Calls.mono (hH2.out _ hN1) ?_; rintro e w3 ⟨rfl, hb2⟩; replace q4 := (hb2.cell (World.block_lt_of_cell? _ _ q4)).trans q4; replace q1 := (hb2.cell (World.block_lt_of_cell? _ _ q1)).trans q1; replace hbF := below_on hbF hb2; clear hb2))
  have hs2 := (hs1.with hO hsm hset).below hbF
  have hb2 : Below w0.heap.size w0 w3 := (hb1.trans (hO.below hb1.size (fun k e => by rw [e]; exact h0m))).trans (hbF.mono (Nat.le_trans hb1.size hO.size))
  have cD : ∀ d os, Calls Tryd.prog 41 #[.slice a n c, .string x.lab] (grow (redrawn w3 d) os) fun e w'' => e = .returned _ ∧ ∃ p : Regrown, w'' = grow (redrawn w3 p.d) p.os := fun d os => Calls.regrown_of (hD.out _ (hL.below (hb2.trans ((below_regrown w3 d os).mono hb2.size))))
  have cC : ∀ d os, Calls Tryd.prog 40 #[.slice X.p X.l X.c, .slice x.p x.l x.c] (grow (redrawn w3 d) os) fun e w'' => e = .returned _ ∧ ∃ p : Regrown, w'' = grow (redrawn w3 p.d) p.os := fun d os => Calls.regrown_of (hC.out _ (hb2.trans ((below_regrown w3 d os).mono hb2.size)))
  have e0 := cell_regrown hs2.c0
  have e1 := cell_regrown q1
  have e2 := cell_regrown q4
  replace cD : Hid _ := cD
  replace cC : Hid _ := cC
  refine wp_region_quiet_below (by kernel_rfl) (by kernel_rfl) ?_
  repeat (first | go_big_quiet_step (first | exact cD.out _ _ | exact cC.out _ _) | quiet_step (first | exact cD.out _ _ | exact cC.out _ _))
  refine wpQuiet_nil ?_
  intro _ hw'
  obtain ⟨⟨dq, osq⟩, hw''⟩ := hw'
  subst hw''
  have hb5 := below_on hbF (below_regrown w3 dq osq)
  clear e0 e1 e2 cD cC
  generalize grow (redrawn w3 dq) osq = w4 at *
  go_wp2_with fail
  all_goals (go_returns; exact ⟨by simp, hset.below hb5, ((Below.only _ hbA).trans hO (fun _ _ h => h)).trans (Below.only _ hb5) (fun _ _ h => h)⟩)
end Go.Proofs.YtmioohbailhppaaDoor
