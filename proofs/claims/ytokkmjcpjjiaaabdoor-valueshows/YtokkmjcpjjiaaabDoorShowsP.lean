/-
  ValueShows returns true for whatever it is handed, and leaves what it was handed as it was; no conditions.
-/
import Derived.Test.YtokkmjcpjjiaaabDoorShows
import Derived.Test.YtokkmjcpjjiaaabDoorWit
namespace Go.Proofs.YtokkmjcpjjiaaabDoor
open Go.ChangeShapes Go.WideShapes Go.ChangeAt Go.RowKit
set_option linter.unusedVariables false
set_option linter.unusedSimpArgs false

theorem p10_of {W : World} (hL : laidMetH Tryd.prog Rows.valueAndsRow.laid W) : P10 W := by
  have e : tens = Lib.pow10Tab := by kernel_rfl
  have h := table hL
  rw [e] at h
  exact ⟨h, World.block_lt_of_cell? W _ (ten0 hL)⟩
section
variable {H : Type} {enc : TypeId × Value → H} {W : World} {held : Bool}
theorem open_path_c {fuel : Nat} {cs : List Value} {x : DataW H × List MemPlace} (h : DataW.trod enc Tryd.prog W 0 (fun _ => true) held fuel 23 cs = some x) :
    ∃ a l c zs, cs = [.slice a l c] ∧ zs.length = l ∧ PathAt W a zs ∧ l ≤ c := by
  rcases open_ints Tryd.underlying23 Tryd.underlying2 cells2 h with ⟨hcs, _⟩ | ⟨a, l, c, zs, hcs, hlc, hl, hm, hz, _, hcell, hwz⟩
  · exact ⟨none, 0, 0, [], hcs, rfl, .inl rfl, Nat.le_refl _⟩
  · simp only [if_true] at hz
    have hlen : (zs.take l).length = l := by simp; omega
    refine ⟨some a, l, c, zs.take l, hcs, hlen, ?_, by omega⟩
    by_cases hl0 : l = 0
    · left; simp [hl0]
    · obtain ⟨b, off, ha, hc⟩ := ints_at hcell (by omega)
      refine .inr ⟨b, off, by rw [ha], fun i hi => ?_⟩
      rw [hlen] at hi
      rw [hc i (by omega)]
      simp [List.getD, List.getElem?_take_of_lt hi]
set_option maxRecDepth 100000 in
/-- A value that came in, opened; its path lies within its room. -/
theorem open_value_c {r : Reach} {b0 : Nat} {v : Value} {d : DataW H} {p : List MemPlace} (hv : Value.okWide Tryd.prog W r b0 25 v) (h : DataW.Trod enc Tryd.prog W 0 (fun _ => true) held 25 v d p) :
    ∃ k b n s a l c zs, v = vv k b n s a l c ∧ (-9223372036854775808 ≤ n ∧ n ≤ 9223372036854775807) ∧ s.size ≤ maxLen ∧ zs.length = l ∧ PathAt W a zs ∧ l ≤ c := by
  obtain ⟨cs, rfl, hsz⟩ := okWide_struct Tryd.underlying25 hv
  obtain ⟨v0, v1, v2, v3, v4, rfl⟩ := array5 (hsz.trans cells25)
  obtain ⟨fuel, hf⟩ := h
  obtain ⟨y0, y1, y2, y3, y4, m, _, t0, t1, t2, t3, t4⟩ := trod_struct5 Tryd.underlying25 hf
  simp only [Value.cells, cells22, cells4, cells2, cells9, cells23, List.drop_zero, List.drop_succ_cons, List.take_succ_cons, List.take_zero] at t0 t1 t2 t3 t4
  obtain ⟨z0, e0, _, w0⟩ := DataW.trod_int Tryd.underlying22 t0
  obtain ⟨z1, e1, _⟩ := DataW.trod_bool Tryd.underlying4 t1
  obtain ⟨z2, e2, _, w2⟩ := DataW.trod_int Tryd.underlying2 t2
  obtain ⟨s3, e3, _, w3⟩ := DataW.trod_string Tryd.underlying9 t3
  obtain ⟨a, l, c, zs, e4, hl, hp, hz⟩ := open_path_c t4
  simp only [List.cons.injEq, and_true] at e0 e1 e2 e3 e4
  subst e0 e1 e2 e3 e4
  exact ⟨z0, z1, z2, s3, a, l, c, zs, rfl, bounds_i64 w2, w3, hl, hp, hz⟩
end
set_option maxRecDepth 100000 in
theorem valueShows_contract (H : Type) (enc : TypeId × Value → H) (W : World) (base : Nat) (args : Array Value) (ds gs : List (DataW H)) (before : List MemPlace)
    (hval0 : ∀ (j : Nat) t v, Tryd.f5.params[j]? = some t → args[j]? = some v → Value.okWide Tryd.prog W .any base t v)
    (hW : DataW.Whole enc Tryd.prog Tryd.f5.params.toList Rows.valueShowsSpec.vars false W args.toList ds gs before) (hL : laidMetH Tryd.prog Rows.valueShowsRow.laid W) :
    Calls Tryd.prog 5 args W fun e W' => ∃ v, e = .returned v ∧ Rows.valueShowsSpec.post enc Tryd.prog Tryd.f5 false true false false W args v W' := by
  have hval : ∀ (j : Nat) t v, Tryd.f5.params[j]? = some t → args[j]? = some v → Value.okWide Tryd.prog W .any base t v := hval0
  have hW' := hW
  obtain ⟨p, q, hA0, hV, rfl, hfz, hnd⟩ := hW
  have hA : DataW.TrodAll enc Tryd.prog W 0 (fun _ => true) true Tryd.f5.params.toList args.toList ds p := hA0
  rw [Tryd.params5] at hA hval
  obtain ⟨v0, vs0, d0, ds0, p0, q0, hargs, rfl, rfl, h0, r0⟩ := trodAll_cons hA
  obtain ⟨rfl, rfl, rfl⟩ := trodAll_nil r0
  obtain rfl : args = #[v0] := by cases args; simp_all
  obtain ⟨rfl, rfl⟩ := trodVars_none hV
  have m0 := h0
  have lt0 : ∀ x ∈ p0, x.block < W.heap.size := by obtain ⟨m, hm⟩ := m0; exact DataW.trod_lt m _ _ _ hm
  obtain ⟨k1, b1, n1, s1, a1, l1, c1, z1, rfl, hn1, hs1, hl1, hp1, hlc⟩ := open_value_c (hval 0 25 v0 rfl rfl) h0
  clear hA0 hval0 hval
  refine (Shows_walk k1 b1 n1 s1 a1 l1 c1 z1 W hl1 hp1 hlc hn1 hs1 (tabs_of hL) (p10_of hL) (ten0 hL)).mono fun e W' ⟨he, bel⟩ => ?_
  subst he
  exact ⟨_, rfl, _, _, _, [], _, [], hW', trodAll_mk1 (shut_bool Tryd.underlying4 _), (trodAll_cons_mk (Below.trod laidOut (by kernel_rfl) (of_decide_eq_true (by kernel_rfl)) m0 bel lt0) trodAll_mk0), rfl, bel.frame _, fun h => by cases h⟩

theorem valueShows_reads (os : Os) {H : Type} (enc : TypeId × Value → H) : ∃ places, DataW.whole enc Tryd.prog ((laidWorld os).forCall (fun _ _ => 0) ⟨#[], #[nul], []⟩).memory Tryd.f5.params.toList Rows.valueShowsSpec.vars false #[nul].toList 8 = some ([.agg [.lit (.int .i64 0), .lit (.bool false), .lit (.int .i64 0), .lit (.string []), .nil]], [], places) :=
  ⟨[], by kernel_rfl⟩

theorem valueShows_laid (os : Os) : laidMet Tryd.prog Rows.valueShowsRow.laid ((laidWorld os).forCall (fun _ _ => 0) ⟨#[], #[nul], []⟩).memory :=
  laid_met os #[nul]

set_option maxRecDepth 100000 in
theorem valueShows_lifted (os : Os) (started : os.Started) (H : Type) (enc : TypeId × Value → H) (F : Stop.Interp) :
    ReturnsInHanded {} Tryd.checked os 5 .any ((OpenSpec.ofChange Rows.valueShowsSpec).preRow enc Tryd.prog Tryd.f5 Rows.valueShowsRow.domain false Rows.valueShowsRow.laid) (((OpenSpec.ofChange Rows.valueShowsSpec).at F).post enc Tryd.prog Tryd.f5 false true false false) := by
  obtain ⟨places, hx⟩ := valueShows_reads os enc
  refine returnsInHanded_of_row (C := Tryd.checked) (s := OpenSpec.ofChange Rows.valueShowsSpec) own started (by kernel_rfl) Tryd.func5
    (witness_row_at (enc := enc) (C := Tryd.checked) false (laidWorld os) #[nul] rfl (by kernel_rfl) (by kernel_rfl) (by kernel_rfl)
      (OpenSpec.preRow_of_cond 8 hx (by kernel_rfl) (fun k hk => by cases hk) (by kernel_rfl) (valueShows_laid os))) ?_
  intro W base args ds gs before hval hW _ _ _ hL _ _
  exact valueShows_contract H enc W base args ds gs before hval hW hL

theorem valueShows_said : Rows.ValueShowsSaid :=
  OpenClaim.holds_of_cond 5 Tryd.f5 rfl rfl rfl rfl rfl rfl rfl ⟨rfl, rfl, rfl, rfl, rfl⟩ rfl rfl rfl rfl rfl (by kernel_rfl) Tryd.func5 (by kernel_rfl)
    (of_decide_eq_true (by kernel_rfl)) (by unfold Func.isWrapper; first | (rw [if_pos (by decide +kernel)]; kernel_rfl) | (rw [if_neg (by decide +kernel)]; exact ⟨rfl, rfl⟩))
    (fun os started H enc _ F => by rw [OpenClaim.pre_eq_preRow]; exact valueShows_lifted os started H enc F)

theorem valueShows_plain (f : FuncId) (fn : Func) (hf : Tryd.pinned.checked.prog.funcNamed "portolan/portolanlaw02.ValueShows" = some f) (hfn : Tryd.pinned.checked.prog.funcs[f]? = some fn) :
    false = Tryd.pinned.checked.prog.looks [] ∧ ∀ (j : Nat) t, fn.params[j]? = some t → Tryd.pinned.checked.prog.wantsStandIn t = false := by
  obtain rfl : f = 5 := Option.some.inj ((show Tryd.prog.funcNamed "portolan/portolanlaw02.ValueShows" = some 5 by kernel_rfl).symm.trans hf) |>.symm
  obtain rfl : fn = Tryd.f5 := (Option.some.inj (Tryd.func5.symm.trans hfn)).symm
  refine ⟨by kernel_rfl, fun j t ht => ?_⟩
  rw [Tryd.params5] at ht
  obtain rfl : t = 25 := by simpa using Array.mem_of_getElem? ht
  exact (show Tryd.prog.wantsStandIn 25 = false by kernel_rfl)

theorem valueShows_holds : Rows.ValueShowsCardSaid :=
  Claim7.holds_tied_plain_at .later [] _ _ _ _ valueShows_said (fun _ h => by cases h) (by kernel_rfl) (fun _ h => by cases h) valueShows_row_tie rfl ⟨rfl, rfl⟩ (by kernel_rfl) rfl valueShows_plain (by kernel_rfl)
end Go.Proofs.YtokkmjcpjjiaaabDoor
