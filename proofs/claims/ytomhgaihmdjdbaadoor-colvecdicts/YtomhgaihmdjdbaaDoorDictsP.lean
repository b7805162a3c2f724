/-
  ColvecDicts returns true for whatever it is handed, and leaves what it was handed as it was; no conditions.
-/
import Derived.Test.YtomhgaihmdjdbaaDoorDlw
import Derived.Test.YtomhgaihmdjdbaaDoorWit
import Derived.Test.YtomhgaihmdjdbaaDoorTbs
import Derived.SliceStrings
namespace Go.Proofs.YtomhgaihmdjdbaaDoor
open Go.ChangeShapes Go.WideShapes Go.ChangeAt Go.RowKit
set_option linter.unusedVariables false
set_option linter.unusedSimpArgs false

theorem bytes39 : Tryd.prog.bytesOf 39 = 64 := by kernel_rfl
theorem bytes9 : Tryd.prog.bytesOf 9 = 16 := by kernel_rfl
set_option maxRecDepth 100000 in
/-- A list of texts that came in, opened. -/
theorem open_texts {H : Type} {enc : TypeId × Value → H} {W : World} {held : Bool} {fuel : Nat} {a : Option Addr} {len cap : Nat} {x : DataW H × List MemPlace} (h : DataW.trod enc Tryd.prog W 0 (fun _ => true) held fuel 54 [.slice a len cap] = some x) :
    ∃ T : List ByteArray, T.length = len ∧ StrsAt W a T ∧ (x.1 = .nil ∧ len = 0 ∨ ∃ el sp, x.1 = .slice el sp ∧ el.length = len) := by
  rcases open_strings Tryd.underlying54 Tryd.underlying9 cells9 h with ⟨hcs, hx⟩ | ⟨a', l, c, ss, hcs, _, hl, hm, hss, hx, hcell, hz⟩
  · simp at hcs
    obtain ⟨rfl, rfl, rfl⟩ := hcs
    exact ⟨[], rfl, .inl rfl, .inl ⟨by rw [hx], rfl⟩⟩
  · simp at hcs
    obtain ⟨rfl, rfl, rfl⟩ := hcs
    simp only [if_true] at hss
    have hlen : (ss.take len).length = len := by simp; omega
    refine ⟨ss.take len, hlen, ?_, .inr ⟨_, _, by rw [hx], by simp [strs]; omega⟩⟩
    by_cases h0 : len = 0
    · left; simp [h0]
    · obtain ⟨b, off, spot⟩ := a'
      have hspot : spot = none := by simpa [Addr.add] using World.cell?_spot (hcell 0 (by omega))
      subst hspot
      refine .inr ⟨b, off, rfl, fun i hi => ?_⟩
      rw [hlen] at hi
      have e : (ss.take len).getD i ByteArray.empty = ss.getD i ByteArray.empty := by simp [List.getD, List.getElem?_take_of_lt hi]
      rw [e]
      refine ⟨by have := hcell i (by omega); rwa [add_plain] at this, ?_⟩
      have hi2 : i < ss.length := by omega
      have e2 : ss.getD i ByteArray.empty = ss[i] := by simp [List.getD, List.getElem?_eq_getElem hi2]
      rw [e2]
      exact hz _ (List.getElem_mem hi2)
theorem colvecDicts_laidis : Rows.colvecDictsRow.laid = Rows.colvecTruthsRow.laid := rfl

set_option maxRecDepth 100000 in
theorem colvecDicts_contract (H : Type) (enc : TypeId × Value → H) (W : World) (base : Nat) (args : Array Value) (ds gs : List (DataW H)) (before : List MemPlace)
    (hval0 : ∀ (j : Nat) t v, Tryd.f7.params[j]? = some t → args[j]? = some v → Value.okWide Tryd.prog W .any base t v)
    (hW : DataW.Whole enc Tryd.prog Tryd.f7.params.toList Rows.colvecDictsSpec.vars false W args.toList ds gs before) (hwt0 : (DataW.weightsEach Tryd.prog (Tryd.f7.params.toList ++ (OpenSpec.ofChange Rows.colvecDictsSpec).bare.plain.varTypes Tryd.prog) (ds ++ gs)).all (· ≤ reachBytes) = true) (hL : laidMetH Tryd.prog Rows.colvecDictsRow.laid W) :
    Calls Tryd.prog 7 args W fun e W' => ∃ v, e = .returned v ∧ Rows.colvecDictsSpec.post enc Tryd.prog Tryd.f7 false true false false W args v W' := by
  rw [colvecDicts_laidis] at hL
  have hval : ∀ (j : Nat) t v, Tryd.f7.params[j]? = some t → args[j]? = some v → Value.okWide Tryd.prog W .any base t v := hval0
  have hW' := hW
  obtain ⟨p, q, hA0, hV, rfl, hfz, hnd⟩ := hW
  have hA : DataW.TrodAll enc Tryd.prog W 0 (fun _ => true) true Tryd.f7.params.toList args.toList ds p := hA0
  rw [Tryd.params7] at hA hval
  obtain ⟨v0, vs0, d0, ds0, p0, q0, hargs, rfl, rfl, h0, r0⟩ := trodAll_cons hA
  obtain ⟨v1, vs1, d1, ds1, p1, q1, rfl, rfl, rfl, h1, r1⟩ := trodAll_cons r0
  obtain ⟨rfl, rfl, rfl⟩ := trodAll_nil r1
  obtain rfl : args = #[v0, v1] := by cases args; simp_all
  obtain ⟨rfl, rfl⟩ := trodVars_none hV
  have m0 := h0
  have lt0 : ∀ x ∈ p0, x.block < W.heap.size := by obtain ⟨m, hm⟩ := m0; exact DataW.trod_lt m _ _ _ hm
  have m1 := h1
  have lt1 : ∀ x ∈ p1, x.block < W.heap.size := by obtain ⟨m, hm⟩ := m1; exact DataW.trod_lt m _ _ _ hm
  obtain ⟨a1, n1, c1, rfl⟩ := okWide_slice Tryd.underlying54 (hval 0 54 v0 rfl rfl)
  obtain ⟨T, lT, hl, hd0⟩ : ∃ T : List ByteArray, T.length = n1 ∧ StrsAt W a1 T ∧ (d0 = .nil ∧ n1 = 0 ∨ ∃ el sp, d0 = .slice el sp ∧ el.length = n1) := by
    obtain ⟨fuel, hf⟩ := h0
    exact open_texts hf
  have hn1 : n1 * 16 ≤ 140737488351232 := len_of hwt0 (j := 0) (t := 54) (by rw [Tryd.params7]; rfl) rfl Tryd.underlying54 bytes9 hd0
  obtain ⟨a2, n2, c2, rfl⟩ := okWide_slice Tryd.underlying23 (hval 1 23 v1 rfl rfl)
  obtain ⟨D2, hv2, hd2⟩ : ∃ D, ValsAt W a2 n2 D ∧ (d1 = .nil ∧ n2 = 0 ∨ ∃ el sp, d1 = .slice el sp ∧ el.length = n2) := by
    obtain ⟨fuel, hf⟩ := h1
    exact open_vals hf
  have hn2 : n2 * 64 ≤ 140737488351232 := len_of hwt0 (j := 1) (t := 23) (by rw [Tryd.params7]; rfl) rfl Tryd.underlying23 bytes39 hd2
  clear hA0 hval0 hval
  refine (Dicts_walk a1 n1 c1 T a2 n2 c2 D2 W lT hl hn1 hv2 hn2 (tabs_of hL)).mono fun e W' ⟨he, bel⟩ => ?_
  subst he
  exact ⟨_, rfl, _, _, _, [], _, [], hW', trodAll_mk1 (shut_bool Tryd.underlying4 _), (trodAll_cons_mk (Below.trod laidOut (by kernel_rfl) (of_decide_eq_true (by kernel_rfl)) m0 bel lt0) (trodAll_cons_mk (Below.trod laidOut (by kernel_rfl) (of_decide_eq_true (by kernel_rfl)) m1 bel lt1) trodAll_mk0)), rfl, bel.frame _, fun h => by cases h⟩

theorem colvecDicts_reads (os : Os) {H : Type} (enc : TypeId × Value → H) : ∃ places, DataW.whole enc Tryd.prog ((laidWorld os).forCall (fun _ _ => 0) ⟨#[], #[.slice none 0 0, .slice none 0 0], []⟩).memory Tryd.f7.params.toList Rows.colvecDictsSpec.vars false #[.slice none 0 0, .slice none 0 0].toList 8 = some ([.nil, .nil], [], places) :=
  ⟨[], by kernel_rfl⟩

theorem colvecDicts_laid (os : Os) : laidMet Tryd.prog Rows.colvecDictsRow.laid ((laidWorld os).forCall (fun _ _ => 0) ⟨#[], #[.slice none 0 0, .slice none 0 0], []⟩).memory :=
  laid_met os #[.slice none 0 0, .slice none 0 0]

set_option maxRecDepth 100000 in
theorem colvecDicts_lifted (os : Os) (started : os.Started) (H : Type) (enc : TypeId × Value → H) (F : Stop.Interp) :
    ReturnsInHanded {} Tryd.checked os 7 .any ((OpenSpec.ofChange Rows.colvecDictsSpec).preRow enc Tryd.prog Tryd.f7 Rows.colvecDictsRow.domain false Rows.colvecDictsRow.laid) (((OpenSpec.ofChange Rows.colvecDictsSpec).at F).post enc Tryd.prog Tryd.f7 false true false false) := by
  obtain ⟨places, hx⟩ := colvecDicts_reads os enc
  refine returnsInHanded_of_row (C := Tryd.checked) (s := OpenSpec.ofChange Rows.colvecDictsSpec) own started (by kernel_rfl) Tryd.func7
    (witness_row_at (enc := enc) (C := Tryd.checked) false (laidWorld os) #[.slice none 0 0, .slice none 0 0] rfl (by kernel_rfl) (by kernel_rfl) (by kernel_rfl)
      (OpenSpec.preRow_of_cond 8 hx (by kernel_rfl) (fun k hk => by cases hk) (by kernel_rfl) (colvecDicts_laid os))) ?_
  intro W base args ds gs before hval hW _ _ hwt hL _ _
  exact colvecDicts_contract H enc W base args ds gs before hval hW hwt hL

theorem colvecDicts_said : Rows.ColvecDictsSaid :=
  OpenClaim.holds_of_cond 7 Tryd.f7 rfl rfl rfl rfl rfl rfl rfl ⟨rfl, rfl, rfl, rfl, rfl⟩ rfl rfl rfl rfl rfl (by kernel_rfl) Tryd.func7 (by kernel_rfl)
    (of_decide_eq_true (by kernel_rfl)) (by unfold Func.isWrapper; first | (rw [if_pos (by decide +kernel)]; kernel_rfl) | (rw [if_neg (by decide +kernel)]; exact ⟨rfl, rfl⟩))
    (fun os started H enc _ F => by rw [OpenClaim.pre_eq_preRow]; exact colvecDicts_lifted os started H enc F)

theorem colvecDicts_plain (f : FuncId) (fn : Func) (hf : Tryd.pinned.checked.prog.funcNamed "portolan/portolanlaw03.ColvecDicts" = some f) (hfn : Tryd.pinned.checked.prog.funcs[f]? = some fn) :
    true = Tryd.pinned.checked.prog.looks [] ∧ ∀ (j : Nat) t, fn.params[j]? = some t → Tryd.pinned.checked.prog.wantsStandIn t = false := by
  obtain rfl : f = 7 := Option.some.inj ((show Tryd.prog.funcNamed "portolan/portolanlaw03.ColvecDicts" = some 7 by kernel_rfl).symm.trans hf) |>.symm
  obtain rfl : fn = Tryd.f7 := (Option.some.inj (Tryd.func7.symm.trans hfn)).symm
  refine ⟨by kernel_rfl, fun j t ht => ?_⟩
  rw [Tryd.params7] at ht
  have ht2 : t = 54 ∨ t = 23 := by simpa using Array.mem_of_getElem? ht
  rcases ht2 with rfl | rfl
  · exact (show Tryd.prog.wantsStandIn 54 = false by kernel_rfl)
  · exact (show Tryd.prog.wantsStandIn 23 = false by kernel_rfl)

theorem colvecDicts_holds : Rows.ColvecDictsCardSaid :=
  Claim7.holds_tied_plain_at .later [] _ _ _ _ colvecDicts_said (fun _ h => by cases h) (by kernel_rfl) (fun _ h => by cases h) colvecDicts_row_tie rfl ⟨rfl, rfl⟩ (by kernel_rfl) rfl colvecDicts_plain (by kernel_rfl)
end Go.Proofs.YtomhgaihmdjdbaaDoor
