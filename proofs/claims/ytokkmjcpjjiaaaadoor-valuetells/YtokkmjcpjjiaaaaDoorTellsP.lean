/-
  ValueTells returns true for whatever it is handed, and leaves what it was handed as it was; no conditions.
-/
import Derived.Test.YtokkmjcpjjiaaaaDoorTel
import Derived.Test.YtokkmjcpjjiaaaaDoorWit
namespace Go.Proofs.YtokkmjcpjjiaaaaDoor
open Go.ChangeShapes Go.WideShapes Go.ChangeAt Go.RowKit
set_option linter.unusedVariables false
set_option linter.unusedSimpArgs false

theorem p10_of {W : World} (hL : laidMetH Tryd.prog Rows.valueTruthsRow.laid W) : P10 W := by
  have e : tens = Lib.pow10Tab := by kernel_rfl
  have h := table hL
  rw [e] at h
  exact ⟨h, World.block_lt_of_cell? W _ (ten0 hL)⟩
theorem bytes2 : Tryd.prog.bytesOf 2 = 8 := by kernel_rfl
section
variable {H : Type} {enc : TypeId × Value → H} {W : World} {held : Bool}
theorem open_path_w {fuel : Nat} {cs : List Value} {x : DataW H × List MemPlace} (h : DataW.trod enc Tryd.prog W 0 (fun _ => true) held fuel 23 cs = some x) :
    ∃ a l c zs, cs = [.slice a l c] ∧ zs.length = l ∧ PathAt W a zs ∧ l ≤ c ∧ ((x.1.weights Tryd.prog 23).all (· ≤ reachBytes) = true → l * 8 ≤ 140737488351232) := by
  rcases open_ints Tryd.underlying23 Tryd.underlying2 cells2 h with ⟨hcs, _⟩ | ⟨a, l, c, zs, hcs, hbl, hl, hm, hz, hx, hcell, hwz⟩
  · exact ⟨none, 0, 0, [], hcs, rfl, .inl rfl, Nat.le_refl _, fun _ => by omega⟩
  · simp only [if_true] at hz
    have hlen : (zs.take l).length = l := by simp; omega
    refine ⟨some a, l, c, zs.take l, hcs, hlen, ?_, hl, fun hw => ?_⟩
    · by_cases hl0 : l = 0
      · left; simp [hl0]
      · obtain ⟨b, off, ha, hc⟩ := ints_at hcell (by omega)
        refine .inr ⟨b, off, by rw [ha], fun i hi => ?_⟩
        rw [hlen] at hi
        rw [hc i (by omega)]
        simp [List.getD, List.getElem?_take_of_lt hi]
    · rw [hx] at hw
      dsimp only at hw
      rw [List.all_eq_true] at hw
      have h3 := hw (((lits .i64 (zs.take l)).length + (lits .i64 (zs.drop l)).length : Nat) * Tryd.prog.bytesOf 2) (by simp only [DataW.weights, Tryd.underlying23]; exact .head _)
      have e1 : (lits (H := H) .i64 (zs.take l)).length = l := by simp [lits]; omega
      rw [e1, bytes2] at h3
      have h4 := of_decide_eq_true h3
      simp only [reachBytes] at h4
      omega
set_option maxRecDepth 100000 in
/-- A value that came in, opened; its path lies within its room, and that within the bytes that came in. -/
theorem open_value_w {r : Reach} {b0 : Nat} {v : Value} {d : DataW H} {p : List MemPlace} (hv : Value.okWide Tryd.prog W r b0 25 v) (h : DataW.Trod enc Tryd.prog W 0 (fun _ => true) held 25 v d p) :
    ∃ k b n s a l c zs, v = vv k b n s a l c ∧ (-9223372036854775808 ≤ n ∧ n ≤ 9223372036854775807) ∧ s.size ≤ maxLen ∧ zs.length = l ∧ PathAt W a zs ∧ l ≤ c ∧ ((d.weights Tryd.prog 25).all (· ≤ reachBytes) = true → l * 8 ≤ 140737488351232) := by
  obtain ⟨cs, rfl, hsz⟩ := okWide_struct Tryd.underlying25 hv
  obtain ⟨v0, v1, v2, v3, v4, rfl⟩ := array5 (hsz.trans cells25)
  obtain ⟨fuel, hf⟩ := h
  obtain ⟨xs, m, hm, hx, hlx, hxl, hget⟩ := DataW.trod_struct Tryd.underlying25 hf
  match xs, hxl with
  | [y0, y1, y2, y3, y4], _ =>
    have t0 : DataW.trod enc Tryd.prog W 0 (fun _ => true) held m 22 (([v0, v1, v2, v3, v4].drop 0).take (Tryd.prog.cellsOf 22)) = ([y0, y1, y2, y3, y4] : List _)[0]? := hget 0 _ rfl
    have t1 : DataW.trod enc Tryd.prog W 0 (fun _ => true) held m 4 (([v0, v1, v2, v3, v4].drop 1).take (Tryd.prog.cellsOf 4)) = ([y0, y1, y2, y3, y4] : List _)[1]? := hget 1 _ rfl
    have t2 : DataW.trod enc Tryd.prog W 0 (fun _ => true) held m 2 (([v0, v1, v2, v3, v4].drop 2).take (Tryd.prog.cellsOf 2)) = ([y0, y1, y2, y3, y4] : List _)[2]? := hget 2 _ rfl
    have t3 : DataW.trod enc Tryd.prog W 0 (fun _ => true) held m 9 (([v0, v1, v2, v3, v4].drop 3).take (Tryd.prog.cellsOf 9)) = ([y0, y1, y2, y3, y4] : List _)[3]? := hget 3 _ rfl
    have t4 : DataW.trod enc Tryd.prog W 0 (fun _ => true) held m 23 (([v0, v1, v2, v3, v4].drop 4).take (Tryd.prog.cellsOf 23)) = ([y0, y1, y2, y3, y4] : List _)[4]? := hget 4 _ rfl
    simp only [cells22, cells4, cells2, cells9, cells23, List.drop_zero, List.drop_succ_cons, List.take_succ_cons, List.take_zero, List.getElem?_cons_zero, List.getElem?_cons_succ] at t0 t1 t2 t3 t4
    obtain ⟨z0, e0, _, w0⟩ := DataW.trod_int Tryd.underlying22 t0
    obtain ⟨z1, e1, _⟩ := DataW.trod_bool Tryd.underlying4 t1
    obtain ⟨z2, e2, _, w2⟩ := DataW.trod_int Tryd.underlying2 t2
    obtain ⟨s3, e3, _, w3⟩ := DataW.trod_string Tryd.underlying9 t3
    obtain ⟨a, l, c, zs, e4, hl, hp, hz, hwt⟩ := open_path_w t4
    simp only [List.cons.injEq, and_true] at e0 e1 e2 e3 e4
    subst e0 e1 e2 e3 e4
    refine ⟨z0, z1, z2, s3, a, l, c, zs, rfl, bounds_i64 w2, w3, hl, hp, hz, fun hw => hwt ?_⟩
    have hd : d = .agg [y0.1, y1.1, y2.1, y3.1, y4.1] := congrArg Prod.fst hx
    rw [hd] at hw
    rw [List.all_eq_true] at hw ⊢
    intro q hq
    refine hw q ?_
    rw [DataW.weights, Tryd.underlying25]
    exact DataW.weights_mem_each (j := 4) (t := 23) rfl rfl q hq
end
set_option maxRecDepth 100000 in
theorem valueTells_contract (H : Type) (enc : TypeId × Value → H) (W : World) (base : Nat) (args : Array Value) (ds gs : List (DataW H)) (before : List MemPlace)
    (hval0 : ∀ (j : Nat) t v, Tryd.f3.params[j]? = some t → args[j]? = some v → Value.okWide Tryd.prog W .any base t v)
    (hW : DataW.Whole enc Tryd.prog Tryd.f3.params.toList Rows.valueTellsSpec.vars false W args.toList ds gs before) (hwt0 : (DataW.weightsEach Tryd.prog (Tryd.f3.params.toList ++ (OpenSpec.ofChange Rows.valueTellsSpec).bare.plain.varTypes Tryd.prog) (ds ++ gs)).all (· ≤ reachBytes) = true) (hL : laidMetH Tryd.prog Rows.valueTellsRow.laid W) :
    Calls Tryd.prog 3 args W fun e W' => ∃ v, e = .returned v ∧ Rows.valueTellsSpec.post enc Tryd.prog Tryd.f3 false true false false W args v W' := by
  have hval : ∀ (j : Nat) t v, Tryd.f3.params[j]? = some t → args[j]? = some v → Value.okWide Tryd.prog W .any base t v := hval0
  have hW' := hW
  obtain ⟨p, q, hA0, hV, rfl, hfz, hnd⟩ := hW
  have hA : DataW.TrodAll enc Tryd.prog W 0 (fun _ => true) true Tryd.f3.params.toList args.toList ds p := hA0
  rw [Tryd.params3] at hA hval
  obtain ⟨v0, vs0, d0, ds0, p0, q0, hargs, rfl, rfl, h0, r0⟩ := trodAll_cons hA
  obtain ⟨rfl, rfl, rfl⟩ := trodAll_nil r0
  obtain rfl : args = #[v0] := by cases args; simp_all
  obtain ⟨rfl, rfl⟩ := trodVars_none hV
  have m0 := h0
  have lt0 : ∀ x ∈ p0, x.block < W.heap.size := by obtain ⟨m, hm⟩ := m0; exact DataW.trod_lt m _ _ _ hm
  obtain ⟨k1, b1, n1, s1, a1, l1, c1, z1, rfl, hn1, hs1, hl1, hp1, hlc, hwt⟩ := open_value_w (hval 0 25 v0 rfl rfl) h0
  have hl8 : l1 * 8 ≤ 140737488351232 := hwt (by
    rw [List.all_eq_true] at hwt0 ⊢
    intro q hq
    exact hwt0 q (DataW.weights_mem_each (j := 0) (t := 25) (by rw [Tryd.params3]; rfl) rfl q hq))
  clear hA0 hval0 hval
  refine (Tells_walk k1 b1 n1 s1 a1 l1 c1 z1 W hl1 hp1 hlc hn1 hs1 hl8 (tabs_of hL) (p10_of hL) (ten0 hL)).mono fun e W' ⟨he, bel⟩ => ?_
  subst he
  exact ⟨_, rfl, _, _, _, [], _, [], hW', trodAll_mk1 (shut_bool Tryd.underlying4 _), (trodAll_cons_mk (Below.trod laidOut (by kernel_rfl) (of_decide_eq_true (by kernel_rfl)) m0 bel lt0) trodAll_mk0), rfl, bel.frame _, fun h => by cases h⟩

theorem valueTells_reads (os : Os) {H : Type} (enc : TypeId × Value → H) : ∃ places, DataW.whole enc Tryd.prog ((laidWorld os).forCall (fun _ _ => 0) ⟨#[], #[nul], []⟩).memory Tryd.f3.params.toList Rows.valueTellsSpec.vars false #[nul].toList 8 = some ([.agg [.lit (.int .i64 0), .lit (.bool false), .lit (.int .i64 0), .lit (.string []), .nil]], [], places) :=
  ⟨[], by kernel_rfl⟩

theorem valueTells_laid (os : Os) : laidMet Tryd.prog Rows.valueTellsRow.laid ((laidWorld os).forCall (fun _ _ => 0) ⟨#[], #[nul], []⟩).memory :=
  laid_met os #[nul]

set_option maxRecDepth 100000 in
theorem valueTells_lifted (os : Os) (started : os.Started) (H : Type) (enc : TypeId × Value → H) (F : Stop.Interp) :
    ReturnsInHanded {} Tryd.checked os 3 .any ((OpenSpec.ofChange Rows.valueTellsSpec).preRow enc Tryd.prog Tryd.f3 Rows.valueTellsRow.domain false Rows.valueTellsRow.laid) (((OpenSpec.ofChange Rows.valueTellsSpec).at F).post enc Tryd.prog Tryd.f3 false true false false) := by
  obtain ⟨places, hx⟩ := valueTells_reads os enc
  refine returnsInHanded_of_row (C := Tryd.checked) (s := OpenSpec.ofChange Rows.valueTellsSpec) own started (by kernel_rfl) Tryd.func3
    (witness_row_at (enc := enc) (C := Tryd.checked) false (laidWorld os) #[nul] rfl (by kernel_rfl) (by kernel_rfl) (by kernel_rfl)
      (OpenSpec.preRow_of_cond 8 hx (by kernel_rfl) (fun k hk => by cases hk) (by kernel_rfl) (valueTells_laid os))) ?_
  intro W base args ds gs before hval hW _ _ hwt hL _ _
  exact valueTells_contract H enc W base args ds gs before hval hW hwt hL

theorem valueTells_said : Rows.ValueTellsSaid :=
  OpenClaim.holds_of_cond 3 Tryd.f3 rfl rfl rfl rfl rfl rfl rfl ⟨rfl, rfl, rfl, rfl, rfl⟩ rfl rfl rfl rfl rfl (by kernel_rfl) Tryd.func3 (by kernel_rfl)
    (of_decide_eq_true (by kernel_rfl)) (by unfold Func.isWrapper; first | (rw [if_pos (by decide +kernel)]; kernel_rfl) | (rw [if_neg (by decide +kernel)]; exact ⟨rfl, rfl⟩))
    (fun os started H enc _ F => by rw [OpenClaim.pre_eq_preRow]; exact valueTells_lifted os started H enc F)

theorem valueTells_plain (f : FuncId) (fn : Func) (hf : Tryd.pinned.checked.prog.funcNamed "portolan/portolanlaw02.ValueTells" = some f) (hfn : Tryd.pinned.checked.prog.funcs[f]? = some fn) :
    false = Tryd.pinned.checked.prog.looks [] ∧ ∀ (j : Nat) t, fn.params[j]? = some t → Tryd.pinned.checked.prog.wantsStandIn t = false := by
  obtain rfl : f = 3 := Option.some.inj ((show Tryd.prog.funcNamed "portolan/portolanlaw02.ValueTells" = some 3 by kernel_rfl).symm.trans hf) |>.symm
  obtain rfl : fn = Tryd.f3 := (Option.some.inj (Tryd.func3.symm.trans hfn)).symm
  refine ⟨by kernel_rfl, fun j t ht => ?_⟩
  rw [Tryd.params3] at ht
  obtain rfl : t = 25 := by simpa using Array.mem_of_getElem? ht
  exact (show Tryd.prog.wantsStandIn 25 = false by kernel_rfl)

theorem valueTells_holds : Rows.ValueTellsCardSaid :=
  Claim7.holds_tied_plain_at .later [] _ _ _ _ valueTells_said (fun _ h => by cases h) (by kernel_rfl) (fun _ h => by cases h) valueTells_row_tie rfl ⟨rfl, rfl⟩ (by kernel_rfl) rfl valueTells_plain (by kernel_rfl)
end Go.Proofs.YtokkmjcpjjiaaaaDoor
