/-
  A graph that came in, opened: types, nodes, edges, and their properties.
-/
import Derived.Test.YtmioohbailhppaaDoorApp
namespace Go.Proofs.YtmioohbailhppaaDoor
open Go.ChangeShapes Go.WideShapes Go.ChangeAt Go.RowKit
set_option linter.unusedSimpArgs false
set_option linter.unusedVariables false

theorem list1 {cs : List Value} (h : cs.length = 1) : ∃ v0, cs = [v0] := by
  match cs, h with
  | [v0], _ => exact ⟨v0, rfl⟩
theorem list2 {cs : List Value} (h : cs.length = 2) : ∃ v0 v1, cs = [v0, v1] := by
  match cs, h with
  | [v0, v1], _ => exact ⟨v0, v1, rfl⟩
theorem list3 {cs : List Value} (h : cs.length = 3) : ∃ v0 v1 v2, cs = [v0, v1, v2] := by
  match cs, h with
  | [v0, v1, v2], _ => exact ⟨v0, v1, v2, rfl⟩
theorem list4 {cs : List Value} (h : cs.length = 4) : ∃ v0 v1 v2 v3, cs = [v0, v1, v2, v3] := by
  match cs, h with
  | [v0, v1, v2, v3], _ => exact ⟨v0, v1, v2, v3, rfl⟩
theorem list6 {cs : List Value} (h : cs.length = 6) : ∃ v0 v1 v2 v3 v4 v5, cs = [v0, v1, v2, v3, v4, v5] := by
  match cs, h with
  | [v0, v1, v2, v3, v4, v5], _ => exact ⟨v0, v1, v2, v3, v4, v5, rfl⟩
theorem spot_none {w : World} {a : Addr} {v : Value} (h : w.cell? (a.add 0) = some v) : ∃ b o, a = ⟨b, o, none⟩ := by
  obtain ⟨b, o, spot⟩ := a
  have hspot : spot = none := by simpa [Addr.add] using World.cell?_spot h
  subst hspot
  exact ⟨b, o, rfl⟩
theorem cells49 : Tryd.prog.cellsOf 49 = 1 := by kernel_rfl
theorem cells42 : Tryd.prog.cellsOf 42 = 1 := by kernel_rfl
theorem cells24 : Tryd.prog.cellsOf 24 = 1 := by kernel_rfl
theorem cells25 : Tryd.prog.cellsOf 25 = 1 := by kernel_rfl
theorem cells26 : Tryd.prog.cellsOf 26 = 1 := by kernel_rfl
theorem cells80 : Tryd.prog.cellsOf 80 = 2 := by kernel_rfl
theorem cells51 : Tryd.prog.cellsOf 51 = 2 := by kernel_rfl
theorem cells102 : Tryd.prog.cellsOf 102 = 6 := by kernel_rfl
theorem cells44 : Tryd.prog.cellsOf 44 = 3 := by kernel_rfl
theorem cells46 : Tryd.prog.cellsOf 46 = 5 := by kernel_rfl
theorem cells28 : Tryd.prog.cellsOf 28 = 4 := by kernel_rfl

section
variable {H : Type} {enc : TypeId × Value → H} {w : World} {held : Bool}

/-- A list of things, each of k cells. -/
theorem open_list {α : Type} [Inhabited α] (At : Nat → Nat → α → Prop) {t e : TypeId} {k : Nat} (ht : Tryd.prog.underlying t = some (.slice e)) (hk : Tryd.prog.cellsOf e = k)
    (one : ∀ (fuel : Nat) (cs : List Value) (x : DataW H × List MemPlace) (a : Addr), w.cells? 0 a k = some cs → DataW.trod enc Tryd.prog w 0 (fun _ => true) held fuel e cs = some x → ∃ b o v, a = ⟨b, o, none⟩ ∧ At b o v)
    {fuel : Nat} {cs : List Value} {x : DataW H × List MemPlace} (h : DataW.trod enc Tryd.prog w 0 (fun _ => true) held fuel t cs = some x) :
    ∃ (a : Option Addr) (len cap : Nat) (L : List α), cs = [.slice a len cap] ∧ L.length = len ∧ len ≤ cap ∧ cap ≤ maxLen ∧ (a = none → L = [] ∧ cap = 0) ∧ (L = [] ∨ ∃ g off, a = some ⟨g, off, none⟩ ∧ ∀ i, i < L.length → At g (off + i * k) (L.getD i default)) ∧ (x.1 = .nil ∧ len = 0 ∨ ∃ el sp, x.1 = .slice el sp ∧ el.length = len) := by
  rcases Deep.open_slice ht h with ⟨hcs, hx⟩ | ⟨a, l, c, m, n, D, Pl, hcs, _, hl, hm, hmm, hx, hall⟩
  · exact ⟨none, 0, 0, [], hcs, rfl, Nat.le_refl _, Nat.zero_le _, fun _ => ⟨rfl, rfl⟩, .inl rfl, .inl ⟨by rw [hx], rfl⟩⟩
  · simp only [if_true] at hmm
    rw [hk] at hall
    have hd : x.1 = .nil ∧ l = 0 ∨ ∃ el sp, x.1 = .slice el sp ∧ el.length = l := .inr ⟨_, _, by rw [hx], by simp⟩
    by_cases h0 : l = 0
    · exact ⟨some a, l, c, [], hcs, by simp [h0], hl, hm, (fun e => by cases e), .inl rfl, hd⟩
    · have two : ∀ i, i < l → ∃ b o v, a.add (i * k) = ⟨b, o, none⟩ ∧ At b o v := fun i hi => by
        obtain ⟨cs', q1, q2⟩ := hall i (by omega)
        exact one _ _ _ _ q1 q2
      obtain ⟨b0, o0, v0, e0, _⟩ := two 0 (by omega)
      obtain ⟨b, off, spot⟩ := a
      have hspot : spot = none := by
        cases spot with
        | none => rfl
        | some s => simp [Addr.add] at e0
      subst hspot
      have three : ∀ i, i < l → ∃ v, At b (off + i * k) v := fun i hi => by
        obtain ⟨b1, o1, v1, e1, q⟩ := two i hi
        rw [add_plain] at e1
        cases e1
        exact ⟨v1, q⟩
      refine ⟨some ⟨b, off, none⟩, l, c, (List.range l).map (fun i => if hi : i < l then Classical.choose (three i hi) else default), hcs, by simp, hl, hm, (fun e => by cases e), .inr ⟨b, off, rfl, fun i hi => ?_⟩, hd⟩
      have hi' : i < l := by simpa using hi
      have e1 : ((List.range l).map (fun i => if hi : i < l then Classical.choose (three i hi) else default)).getD i default = Classical.choose (three i hi') := by
        simp [List.getD, List.getElem?_map, List.getElem?_range hi', hi']
      rw [e1]
      exact Classical.choose_spec (three i hi')

theorem stru2 {t : TypeId} {f0 f1 : Field} {fuel : Nat} {cs : List Value} {x : DataW H × List MemPlace} (ht : Tryd.prog.underlying t = some (.struct #[f0, f1])) (h : DataW.trod enc Tryd.prog w 0 (fun _ => true) held fuel t cs = some x) :
    ∃ y0 y1 n, x.1 = .agg [y0.1, y1.1] ∧ cs.length = Tryd.prog.cellsOf t ∧ DataW.trod enc Tryd.prog w 0 (fun _ => true) held n f0.type ((cs.drop f0.offset).take (Tryd.prog.cellsOf f0.type)) = some y0 ∧ DataW.trod enc Tryd.prog w 0 (fun _ => true) held n f1.type ((cs.drop f1.offset).take (Tryd.prog.cellsOf f1.type)) = some y1 := by
  obtain ⟨xs, n, _, rfl, hl, hlen, hf⟩ := DataW.trod_struct ht h
  match xs, hlen with
  | [y0, y1], _ => exact ⟨y0, y1, n, by simp, hl, by simpa using hf 0 f0 rfl, by simpa using hf 1 f1 rfl⟩
theorem stru3 {t : TypeId} {f0 f1 f2 : Field} {fuel : Nat} {cs : List Value} {x : DataW H × List MemPlace} (ht : Tryd.prog.underlying t = some (.struct #[f0, f1, f2])) (h : DataW.trod enc Tryd.prog w 0 (fun _ => true) held fuel t cs = some x) :
    ∃ y0 y1 y2 n, x.1 = .agg [y0.1, y1.1, y2.1] ∧ cs.length = Tryd.prog.cellsOf t ∧ DataW.trod enc Tryd.prog w 0 (fun _ => true) held n f0.type ((cs.drop f0.offset).take (Tryd.prog.cellsOf f0.type)) = some y0 ∧ DataW.trod enc Tryd.prog w 0 (fun _ => true) held n f1.type ((cs.drop f1.offset).take (Tryd.prog.cellsOf f1.type)) = some y1 ∧ DataW.trod enc Tryd.prog w 0 (fun _ => true) held n f2.type ((cs.drop f2.offset).take (Tryd.prog.cellsOf f2.type)) = some y2 := by
  obtain ⟨xs, n, _, rfl, hl, hlen, hf⟩ := DataW.trod_struct ht h
  match xs, hlen with
  | [y0, y1, y2], _ => exact ⟨y0, y1, y2, n, by simp, hl, by simpa using hf 0 f0 rfl, by simpa using hf 1 f1 rfl, by simpa using hf 2 f2 rfl⟩
theorem stru4 {t : TypeId} {f0 f1 f2 f3 : Field} {fuel : Nat} {cs : List Value} {x : DataW H × List MemPlace} (ht : Tryd.prog.underlying t = some (.struct #[f0, f1, f2, f3])) (h : DataW.trod enc Tryd.prog w 0 (fun _ => true) held fuel t cs = some x) :
    ∃ y0 y1 y2 y3 n, x.1 = .agg [y0.1, y1.1, y2.1, y3.1] ∧ cs.length = Tryd.prog.cellsOf t ∧ DataW.trod enc Tryd.prog w 0 (fun _ => true) held n f0.type ((cs.drop f0.offset).take (Tryd.prog.cellsOf f0.type)) = some y0 ∧ DataW.trod enc Tryd.prog w 0 (fun _ => true) held n f1.type ((cs.drop f1.offset).take (Tryd.prog.cellsOf f1.type)) = some y1 ∧ DataW.trod enc Tryd.prog w 0 (fun _ => true) held n f2.type ((cs.drop f2.offset).take (Tryd.prog.cellsOf f2.type)) = some y2 ∧ DataW.trod enc Tryd.prog w 0 (fun _ => true) held n f3.type ((cs.drop f3.offset).take (Tryd.prog.cellsOf f3.type)) = some y3 := by
  obtain ⟨xs, n, _, rfl, hl, hlen, hf⟩ := DataW.trod_struct ht h
  match xs, hlen with
  | [y0, y1, y2, y3], _ => exact ⟨y0, y1, y2, y3, n, by simp, hl, by simpa using hf 0 f0 rfl, by simpa using hf 1 f1 rfl, by simpa using hf 2 f2 rfl, by simpa using hf 3 f3 rfl⟩
theorem stru5 {t : TypeId} {f0 f1 f2 f3 f4 : Field} {fuel : Nat} {cs : List Value} {x : DataW H × List MemPlace} (ht : Tryd.prog.underlying t = some (.struct #[f0, f1, f2, f3, f4])) (h : DataW.trod enc Tryd.prog w 0 (fun _ => true) held fuel t cs = some x) :
    ∃ y0 y1 y2 y3 y4 n, x.1 = .agg [y0.1, y1.1, y2.1, y3.1, y4.1] ∧ cs.length = Tryd.prog.cellsOf t ∧ DataW.trod enc Tryd.prog w 0 (fun _ => true) held n f0.type ((cs.drop f0.offset).take (Tryd.prog.cellsOf f0.type)) = some y0 ∧ DataW.trod enc Tryd.prog w 0 (fun _ => true) held n f1.type ((cs.drop f1.offset).take (Tryd.prog.cellsOf f1.type)) = some y1 ∧ DataW.trod enc Tryd.prog w 0 (fun _ => true) held n f2.type ((cs.drop f2.offset).take (Tryd.prog.cellsOf f2.type)) = some y2 ∧ DataW.trod enc Tryd.prog w 0 (fun _ => true) held n f3.type ((cs.drop f3.offset).take (Tryd.prog.cellsOf f3.type)) = some y3 ∧ DataW.trod enc Tryd.prog w 0 (fun _ => true) held n f4.type ((cs.drop f4.offset).take (Tryd.prog.cellsOf f4.type)) = some y4 := by
  obtain ⟨xs, n, _, rfl, hl, hlen, hf⟩ := DataW.trod_struct ht h
  match xs, hlen with
  | [y0, y1, y2, y3, y4], _ => exact ⟨y0, y1, y2, y3, y4, n, by simp, hl, by simpa using hf 0 f0 rfl, by simpa using hf 1 f1 rfl, by simpa using hf 2 f2 rfl, by simpa using hf 3 f3 rfl, by simpa using hf 4 f4 rfl⟩

theorem open_pd (fuel : Nat) (cs : List Value) (x : DataW H × List MemPlace) (a : Addr) (hcs : w.cells? 0 a 2 = some cs) (h : DataW.trod enc Tryd.prog w 0 (fun _ => true) held fuel 80 cs = some x) : ∃ b o v, a = ⟨b, o, none⟩ ∧ PDAt w b o v := by
  obtain ⟨_, hlen, hcell⟩ := World.cells?_some hcs
  obtain ⟨y0, y1, n, _, _, t0, t1⟩ := stru2 Tryd.underlying80 h
  obtain ⟨v0, v1, rfl⟩ := list2 hlen
  simp only [cells2, cells9, cells78, cells4, cells98, cells49, cells42, cells100, cells24, cells25, cells26, List.drop_zero, List.drop_succ_cons, List.take_succ_cons, List.take_zero, List.take_nil] at t0 t1
  obtain ⟨s0, e0, _, w0⟩ := DataW.trod_string Tryd.underlying9 t0
  obtain ⟨z1, e1, _, w1⟩ := DataW.trod_int Tryd.underlying78 t1
  simp only [List.cons.injEq, and_true] at e0 e1
  subst e0 e1
  obtain ⟨b, o, rfl⟩ := spot_none (hcell 0 (by omega))
  refine ⟨b, o, ⟨s0, z1⟩, rfl, ⟨?_, ?_, w0⟩⟩
  · have := hcell 0 (by omega); rwa [add_plain] at this
  · have := hcell 1 (by omega); rwa [add_plain] at this

theorem open_td (fuel : Nat) (cs : List Value) (x : DataW H × List MemPlace) (a : Addr) (hcs : w.cells? 0 a 2 = some cs) (h : DataW.trod enc Tryd.prog w 0 (fun _ => true) held fuel 51 cs = some x) : ∃ b o v, a = ⟨b, o, none⟩ ∧ TDAt w b o v := by
  obtain ⟨_, hlen, hcell⟩ := World.cells?_some hcs
  obtain ⟨y0, y1, n, _, _, t0, t1⟩ := stru2 Tryd.underlying51 h
  obtain ⟨v0, v1, rfl⟩ := list2 hlen
  simp only [cells2, cells9, cells78, cells4, cells98, cells49, cells42, cells100, cells24, cells25, cells26, List.drop_zero, List.drop_succ_cons, List.take_succ_cons, List.take_zero, List.take_nil] at t0 t1
  obtain ⟨s0, e0, _, w0⟩ := DataW.trod_string Tryd.underlying9 t0
  obtain ⟨pa, l, c, L, e1, q1, q2, q3, _, q4, _⟩ := open_list (PDAt w) Tryd.underlying49 cells80 open_pd t1
  simp only [List.cons.injEq, and_true] at e0 e1
  subst e0 e1
  obtain ⟨b, o, rfl⟩ := spot_none (hcell 0 (by omega))
  refine ⟨b, o, ⟨s0, pa, l, c, L⟩, rfl, ⟨?_, ?_, w0, q1, q2, q3, q4⟩⟩
  · have := hcell 0 (by omega); rwa [add_plain] at this
  · have := hcell 1 (by omega); rwa [add_plain] at this

theorem open_v5 {fuel : Nat} {v0 v1 v2 v3 v4 : Value} {x : DataW H × List MemPlace} (h : DataW.trod enc Tryd.prog w 0 (fun _ => true) held fuel 100 [v0, v1, v2, v3, v4] = some x) :
    ∃ v : VV, v0 = .int .i64 v.k ∧ v1 = .bool v.b ∧ v2 = .int .i64 v.n ∧ v3 = .string v.s ∧ v4 = .slice v.p v.l v.c ∧ v.s.size ≤ maxLen ∧ v.z.length = v.l ∧ PathAt w v.p v.z := by
  obtain ⟨y0, y1, y2, y3, y4, n, _, _, t0, t1, t2, t3, t4⟩ := stru5 Tryd.underlying100 h
  simp only [cells2, cells9, cells78, cells4, cells98, cells49, cells42, cells100, cells24, cells25, cells26, List.drop_zero, List.drop_succ_cons, List.take_succ_cons, List.take_zero, List.take_nil] at t0 t1 t2 t3 t4
  obtain ⟨z0, e0, _, w0⟩ := DataW.trod_int Tryd.underlying78 t0
  obtain ⟨z1, e1, _⟩ := DataW.trod_bool Tryd.underlying4 t1
  obtain ⟨z2, e2, _, w2⟩ := DataW.trod_int Tryd.underlying2 t2
  obtain ⟨s3, e3, _, w3⟩ := DataW.trod_string Tryd.underlying9 t3
  obtain ⟨pa, l, c, zs, e4, hl, hp, hz⟩ := open_path t4
  simp only [List.cons.injEq, and_true] at e0 e1 e2 e3 e4
  exact ⟨⟨z0, z1, z2, s3, pa, l, c, zs⟩, e0, e1, e2, e3, e4, w3, hl, hp⟩

theorem open_pv (fuel : Nat) (cs : List Value) (x : DataW H × List MemPlace) (a : Addr) (hcs : w.cells? 0 a 6 = some cs) (h : DataW.trod enc Tryd.prog w 0 (fun _ => true) held fuel 102 cs = some x) : ∃ b o v, a = ⟨b, o, none⟩ ∧ PVAt w b o v := by
  obtain ⟨_, hlen, hcell⟩ := World.cells?_some hcs
  obtain ⟨y0, y1, n, _, _, t0, t1⟩ := stru2 Tryd.underlying102 h
  obtain ⟨v0, v1, v2, v3, v4, v5, rfl⟩ := list6 hlen
  simp only [cells2, cells9, cells78, cells4, cells98, cells49, cells42, cells100, cells24, cells25, cells26, List.drop_zero, List.drop_succ_cons, List.take_succ_cons, List.take_zero, List.take_nil] at t0 t1
  obtain ⟨s0, e0, _, w0⟩ := DataW.trod_string Tryd.underlying9 t0
  obtain ⟨v, e1, e2, e3, e4, e5, q1, q2, q3⟩ := open_v5 t1
  simp only [List.cons.injEq, and_true] at e0
  subst e0 e1 e2 e3 e4 e5
  obtain ⟨b, o, rfl⟩ := spot_none (hcell 0 (by omega))
  refine ⟨b, o, ⟨s0, v⟩, rfl, ⟨?_, ?_, ?_, ?_, ?_, ?_, w0, q1, q2, q3⟩⟩
  · have := hcell 0 (by omega); rwa [add_plain] at this
  · have := hcell 1 (by omega); rwa [add_plain] at this
  · have := hcell 2 (by omega); rwa [add_plain] at this
  · have := hcell 3 (by omega); rwa [add_plain] at this
  · have := hcell 4 (by omega); rwa [add_plain] at this
  · have := hcell 5 (by omega); rwa [add_plain] at this

theorem open_n3 {fuel : Nat} {v0 v1 v2 : Value} {x : DataW H × List MemPlace} (h : DataW.trod enc Tryd.prog w 0 (fun _ => true) held fuel 44 [v0, v1, v2] = some x) :
    ∃ v : ND, v0 = .int .i64 v.id ∧ v1 = .string v.lab ∧ v2 = .slice v.p v.l v.c ∧ NDok w v := by
  obtain ⟨y0, y1, y2, n, _, _, t0, t1, t2⟩ := stru3 Tryd.underlying44 h
  simp only [cells2, cells9, cells78, cells4, cells98, cells49, cells42, cells100, cells24, cells25, cells26, List.drop_zero, List.drop_succ_cons, List.take_succ_cons, List.take_zero, List.take_nil] at t0 t1 t2
  obtain ⟨z0, e0, _, w0⟩ := DataW.trod_int Tryd.underlying2 t0
  obtain ⟨s1, e1, _, w1⟩ := DataW.trod_string Tryd.underlying9 t1
  obtain ⟨pa, l, c, L, e2, q1, q2, q3, _, q4, _⟩ := open_list (PVAt w) Tryd.underlying42 cells102 open_pv t2
  simp only [List.cons.injEq, and_true] at e0 e1 e2
  exact ⟨⟨z0, s1, pa, l, c, L⟩, e0, e1, e2, ⟨bounds_i64 w0, w1, q1, Nat.le_trans q2 q3, q4⟩⟩
theorem open_e5 {fuel : Nat} {v0 v1 v2 v3 v4 : Value} {x : DataW H × List MemPlace} (h : DataW.trod enc Tryd.prog w 0 (fun _ => true) held fuel 46 [v0, v1, v2, v3, v4] = some x) :
    ∃ v : ED, v0 = .int .i64 v.id ∧ v1 = .string v.lab ∧ v2 = .int .i64 v.fr ∧ v3 = .int .i64 v.tt ∧ v4 = .slice v.p v.l v.c ∧ EDok w v := by
  obtain ⟨y0, y1, y2, y3, y4, n, _, _, t0, t1, t2, t3, t4⟩ := stru5 Tryd.underlying46 h
  simp only [cells2, cells9, cells78, cells4, cells98, cells49, cells42, cells100, cells24, cells25, cells26, List.drop_zero, List.drop_succ_cons, List.take_succ_cons, List.take_zero, List.take_nil] at t0 t1 t2 t3 t4
  obtain ⟨z0, e0, _, w0⟩ := DataW.trod_int Tryd.underlying2 t0
  obtain ⟨s1, e1, _, w1⟩ := DataW.trod_string Tryd.underlying9 t1
  obtain ⟨z2, e2, _, w2⟩ := DataW.trod_int Tryd.underlying2 t2
  obtain ⟨z3, e3, _, w3⟩ := DataW.trod_int Tryd.underlying2 t3
  obtain ⟨pa, l, c, L, e4, q1, q2, q3, _, q4, _⟩ := open_list (PVAt w) Tryd.underlying42 cells102 open_pv t4
  simp only [List.cons.injEq, and_true] at e0 e1 e2 e3 e4
  exact ⟨⟨z0, s1, z2, z3, pa, l, c, L⟩, e0, e1, e2, e3, e4, ⟨bounds_i64 w0, bounds_i64 w2, bounds_i64 w3, w1, q1, Nat.le_trans q2 q3, q4⟩⟩
theorem open_nd (fuel : Nat) (cs : List Value) (x : DataW H × List MemPlace) (a : Addr) (hcs : w.cells? 0 a 3 = some cs) (h : DataW.trod enc Tryd.prog w 0 (fun _ => true) held fuel 44 cs = some x) : ∃ b o v, a = ⟨b, o, none⟩ ∧ NDAt w b o v := by
  obtain ⟨_, hlen, hcell⟩ := World.cells?_some hcs
  obtain ⟨v0, v1, v2, rfl⟩ := list3 hlen
  obtain ⟨v, rfl, rfl, rfl, k⟩ := open_n3 h
  obtain ⟨b, o, rfl⟩ := spot_none (hcell 0 (by omega))
  refine ⟨b, o, v, rfl, ⟨?_, ?_, ?_, k.iz, k.sz, k.ln, k.lm, k.ps⟩⟩
  · have := hcell 0 (by omega); rwa [add_plain] at this
  · have := hcell 1 (by omega); rwa [add_plain] at this
  · have := hcell 2 (by omega); rwa [add_plain] at this
theorem open_ed (fuel : Nat) (cs : List Value) (x : DataW H × List MemPlace) (a : Addr) (hcs : w.cells? 0 a 5 = some cs) (h : DataW.trod enc Tryd.prog w 0 (fun _ => true) held fuel 46 cs = some x) : ∃ b o v, a = ⟨b, o, none⟩ ∧ EDAt w b o v := by
  obtain ⟨_, hlen, hcell⟩ := World.cells?_some hcs
  obtain ⟨v0, v1, v2, v3, v4, rfl⟩ := list5 hlen
  obtain ⟨v, rfl, rfl, rfl, rfl, rfl, k⟩ := open_e5 h
  obtain ⟨b, o, rfl⟩ := spot_none (hcell 0 (by omega))
  refine ⟨b, o, v, rfl, ⟨?_, ?_, ?_, ?_, ?_, k.iz, k.fz, k.tz, k.sz, k.ln, k.lm, k.ps⟩⟩
  · have := hcell 0 (by omega); rwa [add_plain] at this
  · have := hcell 1 (by omega); rwa [add_plain] at this
  · have := hcell 2 (by omega); rwa [add_plain] at this
  · have := hcell 3 (by omega); rwa [add_plain] at this
  · have := hcell 4 (by omega); rwa [add_plain] at this

/-- A slice's length, by a datum. -/
def LenIs (d : DataW H) (len : Nat) : Prop := d = .nil ∧ len = 0 ∨ ∃ el sp, d = .slice el sp ∧ el.length = len
set_option maxRecDepth 100000 in
/-- A graph that came in. -/
theorem open_raw {r : Reach} {b0 : Nat} {v : Value} {d : DataW H} {p : List MemPlace} (hv : Value.okWide Tryd.prog w r b0 28 v) (h : DataW.Trod enc Tryd.prog w 0 (fun _ => true) held 28 v d p) :
    ∃ (a1 : Option Addr) (n1 c1 : Nat) (a2 : Option Addr) (n2 c2 : Nat) (a3 : Option Addr) (n3 c3 : Nat) (a4 : Option Addr) (n4 c4 : Nat) (g : RW) (d1 d2 d3 d4 : DataW H),
      v = .agg #[.slice a1 n1 c1, .slice a2 n2 c2, .slice a3 n3 c3, .slice a4 n4 c4] ∧ d = .agg [d1, d2, d3, d4] ∧ (g.nt.length = n1 ∧ n1 ≤ c1 ∧ c1 ≤ maxLen ∧ TDsAt w a1 g.nt) ∧ (g.et.length = n2 ∧ n2 ≤ c2 ∧ c2 ≤ maxLen ∧ TDsAt w a2 g.et) ∧
      (g.nd.length = n3 ∧ NDsAt w a3 g.nd ∧ (a3 = none → g.nd = [] ∧ c3 = 0) ∧ LenIs d3 n3) ∧ (g.ed.length = n4 ∧ EDsAt w a4 g.ed ∧ (a4 = none → g.ed = [] ∧ c4 = 0) ∧ LenIs d4 n4) := by
  obtain ⟨cs, rfl, hsz⟩ := okWide_struct Tryd.underlying28 hv
  obtain ⟨v0, v1, v2, v3, rfl⟩ := Joins.array4 (hsz.trans cells28)
  obtain ⟨fuel, hf⟩ := h
  obtain ⟨y0, y1, y2, y3, m, hx, _, t0, t1, t2, t3⟩ := stru4 Tryd.underlying28 hf
  simp only [Value.cells] at t0 t1 t2 t3
  simp only [cells2, cells9, cells78, cells4, cells98, cells49, cells42, cells100, cells24, cells25, cells26, List.drop_zero, List.drop_succ_cons, List.take_succ_cons, List.take_zero, List.take_nil] at t0 t1 t2 t3
  obtain ⟨a1, n1, c1, L1, e1, p1, p2, p3, _, p4, _⟩ := open_list (TDAt w) Tryd.underlying24 cells51 open_td t0
  obtain ⟨a2, n2, c2, L2, e2, q1, q2, q3, _, q4, _⟩ := open_list (TDAt w) Tryd.underlying24 cells51 open_td t1
  obtain ⟨a3, n3, c3, L3, e3, r1, r2, r3, r4, r5, r6⟩ := open_list (NDAt w) Tryd.underlying25 cells44 open_nd t2
  obtain ⟨a4, n4, c4, L4, e4, s1, s2, s3, s4, s5, s6⟩ := open_list (EDAt w) Tryd.underlying26 cells46 open_ed t3
  simp only [List.cons.injEq, and_true] at e1 e2 e3 e4
  subst e1 e2 e3 e4
  exact ⟨a1, n1, c1, a2, n2, c2, a3, n3, c3, a4, n4, c4, ⟨L1, L2, L3, L4⟩, _, _, _, _, rfl, hx, ⟨p1, p2, p3, p4⟩, ⟨q1, q2, q3, q4⟩, ⟨r1, r5, r4, r6⟩, ⟨s1, s5, s4, s6⟩⟩
set_option maxRecDepth 100000 in
theorem open_node {r : Reach} {b0 : Nat} {v : Value} {d : DataW H} {p : List MemPlace} (hv : Value.okWide Tryd.prog w r b0 44 v) (h : DataW.Trod enc Tryd.prog w 0 (fun _ => true) held 44 v d p) :
    ∃ x : ND, v = .agg #[.int .i64 x.id, .string x.lab, .slice x.p x.l x.c] ∧ NDok w x := by
  obtain ⟨cs, rfl, hsz⟩ := okWide_struct Tryd.underlying44 hv
  obtain ⟨v0, v1, v2, rfl⟩ := Joins.array3 (hsz.trans cells44)
  obtain ⟨fuel, hf⟩ := h
  obtain ⟨x, rfl, rfl, rfl, k⟩ := open_n3 hf
  exact ⟨x, rfl, k⟩
set_option maxRecDepth 100000 in
theorem open_edge {r : Reach} {b0 : Nat} {v : Value} {d : DataW H} {p : List MemPlace} (hv : Value.okWide Tryd.prog w r b0 46 v) (h : DataW.Trod enc Tryd.prog w 0 (fun _ => true) held 46 v d p) :
    ∃ x : ED, v = .agg #[.int .i64 x.id, .string x.lab, .int .i64 x.fr, .int .i64 x.tt, .slice x.p x.l x.c] ∧ EDok w x := by
  obtain ⟨cs, rfl, hsz⟩ := okWide_struct Tryd.underlying46 hv
  obtain ⟨v0, v1, v2, v3, v4, rfl⟩ := array5 (hsz.trans cells46)
  obtain ⟨fuel, hf⟩ := h
  obtain ⟨x, rfl, rfl, rfl, rfl, rfl, k⟩ := open_e5 hf
  exact ⟨x, rfl, k⟩
/-- How long a graph's lists may be, by the bytes that they take. -/
theorem len_field {ts : List TypeId} {ds : List (DataW H)} (h : (DataW.weightsEach Tryd.prog ts ds).all (· ≤ reachBytes) = true) {d1 d2 d3 d4 : DataW H} (ht : ts[0]? = some 28) (hd : ds[0]? = some (.agg [d1, d2, d3, d4])) {n3 n4 : Nat} (h3 : LenIs d3 n3) (h4 : LenIs d4 n4) : n3 * 48 ≤ 140737488351232 ∧ n4 * 64 ≤ 140737488351232 := by
  have key : ∀ n ∈ DataW.weightsEach Tryd.prog [24, 24, 25, 26] [d1, d2, d3, d4], n ≤ reachBytes := fun n hn => by
    have hm : n ∈ DataW.weights Tryd.prog 28 (.agg [d1, d2, d3, d4]) := by
      unfold DataW.weights
      rw [Tryd.underlying28]
      exact hn
    have := DataW.weights_mem_each ht hd n hm
    simpa using List.all_eq_true.1 h n this
  have hall : (DataW.weightsEach Tryd.prog [24, 24, 25, 26] [d1, d2, d3, d4]).all (· ≤ reachBytes) = true := List.all_eq_true.2 fun n hn => by simpa using key n hn
  exact ⟨len_of hall (j := 2) (t := 25) (e := 44) (B := 48) rfl rfl Tryd.underlying25 (by kernel_rfl) h3, len_of hall (j := 3) (t := 26) (e := 46) (B := 64) rfl rfl Tryd.underlying26 (by kernel_rfl) h4⟩
end
end Go.Proofs.YtmioohbailhppaaDoor
