/-
  ValueLine returns true for whatever it is handed, and leaves what it was handed as it was; no conditions.
-/
import Derived.Test.YtokkmjcpjjiaaaaDoorLine
import Derived.Test.YtokkmjcpjjiaaaaDoorWit
namespace Go.Proofs.YtokkmjcpjjiaaaaDoor
open Go.ChangeShapes Go.WideShapes Go.ChangeAt Go.RowKit
set_option linter.unusedVariables false
set_option linter.unusedSimpArgs false

set_option maxRecDepth 100000 in
theorem valueLine_contract (H : Type) (enc : TypeId × Value → H) (W : World) (base : Nat) (args : Array Value) (ds gs : List (DataW H)) (before : List MemPlace)
    (hval0 : ∀ (j : Nat) t v, Tryd.f7.params[j]? = some t → args[j]? = some v → Value.okWide Tryd.prog W .any base t v)
    (hW : DataW.Whole enc Tryd.prog Tryd.f7.params.toList Rows.valueLineSpec.vars false W args.toList ds gs before) (hL : laidMetH Tryd.prog Rows.valueLineRow.laid W) :
    Calls Tryd.prog 7 args W fun e W' => ∃ v, e = .returned v ∧ Rows.valueLineSpec.post enc Tryd.prog Tryd.f7 false true false false W args v W' := by
  have hval : ∀ (j : Nat) t v, Tryd.f7.params[j]? = some t → args[j]? = some v → Value.okWide Tryd.prog W .any base t v := hval0
  have hW' := hW
  obtain ⟨p, q, hA0, hV, rfl, hfz, hnd⟩ := hW
  have hA : DataW.TrodAll enc Tryd.prog W 0 (fun _ => true) true Tryd.f7.params.toList args.toList ds p := hA0
  rw [Tryd.params7] at hA hval
  obtain ⟨v0, vs0, d0, ds0, p0, q0, hargs, rfl, rfl, h0, r0⟩ := trodAll_cons hA
  obtain ⟨v1, vs1, d1, ds1, p1, q1, rfl, rfl, rfl, h1, r1⟩ := trodAll_cons r0
  obtain ⟨v2, vs2, d2, ds2, p2, q2, rfl, rfl, rfl, h2, r2⟩ := trodAll_cons r1
  obtain ⟨rfl, rfl, rfl⟩ := trodAll_nil r2
  obtain rfl : args = #[v0, v1, v2] := by cases args; simp_all
  obtain ⟨rfl, rfl⟩ := trodVars_none hV
  have m0 := h0
  have lt0 : ∀ x ∈ p0, x.block < W.heap.size := by obtain ⟨m, hm⟩ := m0; exact DataW.trod_lt m _ _ _ hm
  have m1 := h1
  have lt1 : ∀ x ∈ p1, x.block < W.heap.size := by obtain ⟨m, hm⟩ := m1; exact DataW.trod_lt m _ _ _ hm
  have m2 := h2
  have lt2 : ∀ x ∈ p2, x.block < W.heap.size := by obtain ⟨m, hm⟩ := m2; exact DataW.trod_lt m _ _ _ hm
  obtain ⟨k1, b1, n1, s1, a1, l1, c1, z1, rfl, hk1, hn1, hs1, hl1, hp1, hz1⟩ := open_value (hval 0 25 v0 rfl rfl) h0
  obtain ⟨k2, b2, n2, s2, a2, l2, c2, z2, rfl, hk2, hn2, hs2, hl2, hp2, hz2⟩ := open_value (hval 1 25 v1 rfl rfl) h1
  obtain ⟨k3, b3, n3, s3, a3, l3, c3, z3, rfl, hk3, hn3, hs3, hl3, hp3, hz3⟩ := open_value (hval 2 25 v2 rfl rfl) h2
  clear hA0 hval0 hval
  refine (Line_walk k1 b1 n1 s1 a1 l1 c1 z1 k2 b2 n2 s2 a2 l2 c2 z2 k3 b3 n3 s3 a3 l3 c3 z3 W hl1 hl2 hl3 hp1 hp2 hp3 hz1.2 hz2.2 hz3.2 hs1 hs2 hn1 hn2 hz1.1 hz2.1 (tabs_of hL) (ten0 hL)).mono fun e W' ⟨he, bel⟩ => ?_
  subst he
  exact ⟨_, rfl, _, _, _, [], _, [], hW', trodAll_mk1 (shut_bool Tryd.underlying4 _), (trodAll_cons_mk (Below.trod laidOut (by kernel_rfl) (of_decide_eq_true (by kernel_rfl)) m0 bel lt0) (trodAll_cons_mk (Below.trod laidOut (by kernel_rfl) (of_decide_eq_true (by kernel_rfl)) m1 bel lt1) (trodAll_cons_mk (Below.trod laidOut (by kernel_rfl) (of_decide_eq_true (by kernel_rfl)) m2 bel lt2) trodAll_mk0))), rfl, bel.frame _, fun h => by cases h⟩

theorem valueLine_reads (os : Os) {H : Type} (enc : TypeId × Value → H) : ∃ places, DataW.whole enc Tryd.prog ((laidWorld os).forCall (fun _ _ => 0) ⟨#[], #[nul, nul, nul], []⟩).memory Tryd.f7.params.toList Rows.valueLineSpec.vars false #[nul, nul, nul].toList 8 = some ([.agg [.lit (.int .i64 0), .lit (.bool false), .lit (.int .i64 0), .lit (.string []), .nil], .agg [.lit (.int .i64 0), .lit (.bool false), .lit (.int .i64 0), .lit (.string []), .nil], .agg [.lit (.int .i64 0), .lit (.bool false), .lit (.int .i64 0), .lit (.string []), .nil]], [], places) :=
  ⟨[], by kernel_rfl⟩

theorem valueLine_laid (os : Os) : laidMet Tryd.prog Rows.valueLineRow.laid ((laidWorld os).forCall (fun _ _ => 0) ⟨#[], #[nul, nul, nul], []⟩).memory :=
  laid_met os #[nul, nul, nul]

set_option maxRecDepth 100000 in
theorem valueLine_lifted (os : Os) (started : os.Started) (H : Type) (enc : TypeId × Value → H) (F : Stop.Interp) :
    ReturnsInHanded {} Tryd.checked os 7 .any ((OpenSpec.ofChange Rows.valueLineSpec).preRow enc Tryd.prog Tryd.f7 Rows.valueLineRow.domain false Rows.valueLineRow.laid) (((OpenSpec.ofChange Rows.valueLineSpec).at F).post enc Tryd.prog Tryd.f7 false true false false) := by
  obtain ⟨places, hx⟩ := valueLine_reads os enc
  refine returnsInHanded_of_row (C := Tryd.checked) (s := OpenSpec.ofChange Rows.valueLineSpec) own started (by kernel_rfl) Tryd.func7
    (witness_row_at (enc := enc) (C := Tryd.checked) false (laidWorld os) #[nul, nul, nul] rfl (by kernel_rfl) (by kernel_rfl) (by kernel_rfl)
      (OpenSpec.preRow_of_cond 8 hx (by kernel_rfl) (fun k hk => by cases hk) (by kernel_rfl) (valueLine_laid os))) ?_
  intro W base args ds gs before hval hW _ _ _ hL _ _
  exact valueLine_contract H enc W base args ds gs before hval hW hL

theorem valueLine_said : Rows.ValueLineSaid :=
  OpenClaim.holds_of_cond 7 Tryd.f7 rfl rfl rfl rfl rfl rfl rfl ⟨rfl, rfl, rfl, rfl, rfl⟩ rfl rfl rfl rfl rfl (by kernel_rfl) Tryd.func7 (by kernel_rfl)
    (of_decide_eq_true (by kernel_rfl)) (by unfold Func.isWrapper; first | (rw [if_pos (by decide +kernel)]; kernel_rfl) | (rw [if_neg (by decide +kernel)]; exact ⟨rfl, rfl⟩))
    (fun os started H enc _ F => by rw [OpenClaim.pre_eq_preRow]; exact valueLine_lifted os started H enc F)

theorem valueLine_plain (f : FuncId) (fn : Func) (hf : Tryd.pinned.checked.prog.funcNamed "portolan/portolanlaw02.ValueLine" = some f) (hfn : Tryd.pinned.checked.prog.funcs[f]? = some fn) :
    false = Tryd.pinned.checked.prog.looks [] ∧ ∀ (j : Nat) t, fn.params[j]? = some t → Tryd.pinned.checked.prog.wantsStandIn t = false := by
  obtain rfl : f = 7 := Option.some.inj ((show Tryd.prog.funcNamed "portolan/portolanlaw02.ValueLine" = some 7 by kernel_rfl).symm.trans hf) |>.symm
  obtain rfl : fn = Tryd.f7 := (Option.some.inj (Tryd.func7.symm.trans hfn)).symm
  refine ⟨by kernel_rfl, fun j t ht => ?_⟩
  rw [Tryd.params7] at ht
  obtain rfl : t = 25 := by simpa using Array.mem_of_getElem? ht
  exact (show Tryd.prog.wantsStandIn 25 = false by kernel_rfl)

theorem valueLine_holds : Rows.ValueLineCardSaid :=
  Claim7.holds_tied_plain_at .later [] _ _ _ _ valueLine_said (fun _ h => by cases h) (by kernel_rfl) (fun _ h => by cases h) valueLine_row_tie rfl ⟨rfl, rfl⟩ (by kernel_rfl) rfl valueLine_plain (by kernel_rfl)
end Go.Proofs.YtokkmjcpjjiaaaaDoor
