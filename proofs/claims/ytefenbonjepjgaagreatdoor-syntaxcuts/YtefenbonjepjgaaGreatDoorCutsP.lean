/-
  The law of cuts: the walk.
  SyntaxCuts returns true for whatever texts and number it is handed, and leaves them as they were; no conditions.
-/
import Derived.Test.YtefenbonjepjgaaGreatDoorTbs
import Derived.Test.YtefenbonjepjgaaGreatDoorEra
import Derived.BigQuiet
namespace Go.Proofs.YtefenbonjepjgaaGreatDoor
open Go.ChangeShapes Go.WideShapes Go.ChangeAt Go.RowKit
set_option linter.unusedSimpArgs false
set_option linter.unusedVariables false

theorem lxs_count {at' : Nat} {l : List UInt8} {L : List Tk} (h : Lxs at' l L) : L.length ≤ l.length := by
  induction h with
  | nil => exact Nat.le_refl _
  | blank at' l L hne h r ih =>
    rw [List.length_drop] at ih
    omega
  | word at' l L hne h he r ih =>
    have := word_len l hne he
    rw [List.length_drop] at ih
    rw [List.length_cons]
    omega
/-- Parse with one way out. -/
theorem parse_one (s : ByteArray) (hs : s.size ≤ maxLen) (w : World) (hT : Tabs w) :
    Calls Tryz.prog 10 #[.string s] w fun e w' => Below w.heap.size w w' ∧ ∃ p0 n0 c0 p1 n1 c1 d p3 n3 c3 p4 n4 c4 l a y, e = .returned (.tuple #[.agg #[.slice p0 n0 c0, .slice p1 n1 c1, .bool d, .slice p3 n3 c3, .slice p4 n4 c4, .int .i64 l], .int .i64 a, .int .i64 y]) ∧ SaysR (parseL s.data.toList) a y := by
  refine (parse10 s hs w hT).mono ?_
  rintro e w' ⟨hb, h⟩
  refine ⟨hb, ?_⟩
  cases hr : parseL s.data.toList with
  | ok x M =>
    rw [hr] at h
    obtain ⟨v, rfl, v0, v1, v3, v4, rfl, hx0, hx1, hx3, hx4⟩ := h
    obtain ⟨p0, c0, rfl⟩ := hx0.val
    obtain ⟨p1, c1, rfl⟩ := hx1.val
    obtain ⟨p3, c3, rfl⟩ := hx3.val
    obtain ⟨p4, c4, rfl⟩ := hx4.val
    exact ⟨_, _, _, _, _, _, _, _, _, _, _, _, _, _, _, _, rfl, rfl, rfl⟩
  | bad a y =>
    rw [hr] at h
    exact ⟨_, _, _, _, _, _, _, _, _, _, _, _, _, _, _, _, h, rfl, rfl⟩
set_option maxRecDepth 100000 in
set_option maxHeartbeats 4000000 in
theorem Cuts_bad (s more : ByteArray) (k : Int) (hk : 0 ≤ k ∧ k < 256) (hs : s.size ≤ maxLen) (hm : more.size ≤ maxLen) (w : World) (hT : Tabs w) (a1 : Nat) (y1 : Int) (hp : parseL s.data.toList = .bad a1 y1) :
    Calls Tryz.prog 6 #[.string s, .int .u8 k, .string more] w fun e w' => e = .returned (.bool true) ∧ Below w.heap.size w w' := by
  have hH := fun (_ : Unit) => head_any w hT
  replace hH : Hid _ := hH
  have hP := fun (_ : Unit) => parse_one s hs
  rw [hp] at hP
  replace hP : Hid _ := hP
  have hL := fun (_ : Unit) => Lex_at s hs
  replace hL : Hid _ := hL
  have hy1 := parse_bad hp
  have hyd : decide (y1 = 0) = false := by simp [hy1]
  replace hT : Hid _ := hT
  go_enter Tryz.func6, Tryz.ntmps6
  go_wp2_with (first
    | (go_at_call 9; (have hh := hH.out (); (with_reducible refine Calls.mono hh ?_); clear hh hH; rintro e w1 ⟨rfl, hb1⟩))
    | (go_at_call 10; (with_reducible refine Calls.mono (hP.out () _ (hT.out.below hb1)) ?_); rintro e w2 ⟨hb2, p0, n0, c0, p1, n1, c1, d, p3, n3, c3, p4, n4, c4, l, _, _, rfl, rfl, rfl⟩; have hb2' := below_on hb1 hb2)
    | (go_at_call 17; (with_reducible refine Calls.mono (hL.out () _ (hT.out.below (below_on hb2' (by go_grown)))) ?_); rintro e w3 ⟨p, cap, rfl, hcap, hws, hb3⟩; have hb3' := below_on (below_on hb2' (by go_grown)) hb3; replace hws : Hid _ := hws))
  go_returns
  exact ⟨by simp, hb3'⟩
set_option maxRecDepth 100000 in
set_option maxHeartbeats 4000000 in
theorem Cuts_ok (s more : ByteArray) (k : Int) (hk : 0 ≤ k ∧ k < 256) (hs : s.size ≤ maxLen) (hm : more.size ≤ 140737488351232) (w : World) (hT : Tabs w) (x : Qy) (M : List Tk) (hp : parseL s.data.toList = .ok x M) :
    Calls Tryz.prog 6 #[.string s, .int .u8 k, .string more] w fun e w' => e = .returned (.bool true) ∧ Below w.heap.size w w' := by
  have hH := fun (_ : Unit) => head_any w hT
  replace hH : Hid _ := hH
  have hP := fun (_ : Unit) => parse_one s hs
  rw [hp] at hP
  replace hP : Hid _ := hP
  have hL := fun (_ : Unit) => Lex_at s hs
  rw [(parse_okQ hp).1] at hL
  replace hL : Hid _ := hL
  have hne := parse_words hp
  have hd0 : decide (((lexL s.data.toList).1.length : Int) = 0) = false := by
    have := List.length_pos_iff.2 hne
    simp
    omega
  have hs4 : s.size ≤ 4096 := (lexL_lxs (parse_okQ hp).1).1
  clear hs
  replace hT : Hid _ := hT
  go_enter Tryz.func6, Tryz.ntmps6
  go_upto_region 6 with (first
    | (go_at_call 9; (have hh := hH.out (); (with_reducible refine Calls.mono hh ?_); clear hh hH; rintro e w1 ⟨rfl, hb1⟩))
    | (go_at_call 10; (with_reducible refine Calls.mono (hP.out () _ (hT.out.below hb1)) ?_); rintro e w2 ⟨hb2, p0, n0, c0, p1, n1, c1, d, p3, n3, c3, p4, n4, c4, l, _, _, rfl, rfl, rfl⟩; have hb2' := below_on hb1 hb2)
    | (go_at_call 17; (with_reducible refine Calls.mono (hL.out () _ (hT.out.below (below_on hb2' (by go_grown)))) ?_); rintro e w3 ⟨p, cap, rfl, hcap, hws, hb3⟩; have hb3' := below_on (below_on hb2' (by go_grown)) hb3; replace hws : Hid _ := hws))
  · go_returns
    exact ⟨by simp, hb3'⟩
  obtain ⟨hz1, hz⟩ : (((lexL s.data.toList).1.length : Int) == 0) = false ∧ (s.size : Int) + (more.size : Int) + 1 ≤ 4096 := by assumption
  rcases hws.out w3 (fun _ _ _ => rfl) with hw0 | ⟨g, o, rfl, hg, hc⟩
  · exact absurd hw0 hne
  have hlen := List.length_pos_iff.2 hne
  have hLe : (lexL s.data.toList).1.length ≤ 4096 := by
    have := lxs_count (lexL_lxs (parse_okQ hp).1).2
    have h2 : s.data.toList.length = s.size := Array.length_toList
    omega
  obtain ⟨i, hi⟩ : ∃ i : Nat, k % ((lexL s.data.toList).1.length : Int) = i := ⟨(k % ((lexL s.data.toList).1.length : Int)).toNat, by have := Int.emod_nonneg k (b := ((lexL s.data.toList).1.length : Int)) (by omega); omega⟩
  have hin : i < (lexL s.data.toList).1.length := by have := Int.emod_lt_of_pos k (b := ((lexL s.data.toList).1.length : Int)) (by omega); omega
  have hit : k.tmod ((lexL s.data.toList).1.length : Int) = i := by rw [Int.tmod_eq_emod_of_nonneg hk.1]; exact hi
  obtain ⟨_, _, _, c3⟩ := hc i hin
  obtain ⟨t, ht⟩ : ∃ t, (lexL s.data.toList).1[i]? = some t := ⟨_, List.getElem?_eq_getElem hin⟩
  have htd : (lexL s.data.toList).1.getD i default = t := by rw [List.getD_eq_getElem?_getD, ht]; rfl
  rw [htd] at c3
  have hcut := fun (a y : Int) => parse_cut hp i t ht (a := a) (y := y)
  have htl : t.at' < s.size := by
    have h2 : s.data.toList.length = s.size := Array.length_toList
    have := ((lexL_lxs (parse_okQ hp).1).2.ge t (List.mem_of_getElem? ht)).2
    omega
  have hsz : (s.extract 0 t.at').size = t.at' := by rw [ByteArray.size_extract]; omega
  have hct : (s.extract 0 t.at').data.toList = s.data.toList.take t.at' := by simp
  have hjt : ((s ++ ⟨#[32]⟩) ++ more).data.toList = s.data.toList ++ 32 :: more.data.toList := by
    rw [Joins.data_append, Joins.data_append, List.append_assoc]
    rfl
  have hjz : ((s ++ ⟨#[32]⟩) ++ more).size ≤ maxLen := by
    rw [ByteArray.size_append, ByteArray.size_append]
    show s.size + 1 + more.size ≤ _
    unfold maxLen
    omega
  have hmore := fun (a y : Int) (he : (lexL more.data.toList).2.2 = 0) => parse_more hp (more := more.data.toList) (a := a) (y := y) (by
    have h2 : s.data.toList.length = s.size := Array.length_toList
    have h3 : more.data.toList.length = more.size := Array.length_toList
    omega) he
  have hP2 := fun (_ : Unit) => parse_one (s.extract 0 t.at') (by rw [hsz]; unfold maxLen; omega)
  rw [hct] at hP2
  have hP3 := fun (_ : Unit) => parse_one ((s ++ ⟨#[32]⟩) ++ more) hjz
  rw [hjt] at hP3
  have hL2 := fun (_ : Unit) => Lex_at more (by unfold maxLen; omega)
  have y1 : s.size + (⟨#[32]⟩ : ByteArray).size ≤ 9223372036854775807 := by show s.size + 1 ≤ _; omega
  have y2 : (s ++ (⟨#[32]⟩ : ByteArray)).size + more.size ≤ 9223372036854775807 := by rw [ByteArray.size_append]; show s.size + 1 + more.size ≤ _; omega
  have u1 : ∀ W, (Op.stringOp .add (s : ByteArray) (⟨#[32]⟩ : ByteArray)).run Tryz.prog W = .ok (.string (s ++ ⟨#[32]⟩)) W := fun W => by apply run_string_add_sum; exact y1
  have u2 : ∀ W, (Op.stringOp .add ((s ++ ⟨#[32]⟩) : ByteArray) (more : ByteArray)).run Tryz.prog W = .ok (.string ((s ++ ⟨#[32]⟩) ++ more)) W := fun W => by apply run_string_add_sum; exact y2
  clear hP hL hjt hjz hct y1 y2
  generalize (lexL s.data.toList).1.length = n at *
  generalize (lexL s.data.toList).2.1 = z at *
  clear hws hc
  replace hcut : Hid _ := hcut
  replace hmore : Hid _ := hmore
  replace hP2 : Hid _ := hP2
  replace hP3 : Hid _ := hP3
  replace hL2 : Hid _ := hL2
  go_upto_region 7 with fail
  go_upto_region 8 with ((with_reducible refine Calls.mono (hP2.out () _ (hT.out.below hb3')) ?_); rintro e w4 ⟨hb4, q0, m0, d0, q1, m1, d1, dd, q3, m3, d3, q4, m4, d4, ll, a4, y4, rfl, hy4⟩; have hb4' := below_on hb3' hb4; replace hy4 := hcut.out _ _ hy4)
  go_upto_region 9 with ((with_reducible refine Calls.mono (hL2.out () _ (hT.out.below (below_on hb4' (by go_grown)))) ?_); rintro e w5 ⟨p5, cap5, rfl, hcap5, hws5, hb5⟩; have hb5' := below_on (below_on hb4' (by go_grown)) hb5; clear hws5)
  go_upto_region 10 with ((with_reducible refine Calls.mono (hP3.out () _ (hT.out.below hb5')) ?_); rintro e w6 ⟨hb6, q5, m5, d5, q6, m6, d6, dd2, q7, m7, d7, q8, m8, d8, l6, a6, y6, rfl, hy6⟩; have hb6' := below_on hb5' hb6; replace hy6 := fun he => hmore.out _ _ he hy6)
  generalize (lexL more.data.toList).1.length = n5 at *
  generalize (lexL more.data.toList).2.1 = z5 at *
  generalize (lexL more.data.toList).2.2 = e5 at *
  have hsz' : (((s.extract 0 t.at').size : Nat) : Int) = t.at' := by rw [hsz]
  have hone : y4 = 0 ∨ ¬ y4 = 0 ∧ y4 = 81 ∧ a4 = (s.extract 0 t.at').size := by
    rw [hsz']
    rcases hy4.2 with h | ⟨h, h'⟩
    · exact .inl h
    · exact .inr ⟨by omega, h, h'⟩
  have htwo : ¬ e5 = 0 ∨ e5 = 0 ∧ (y6 = 0 ∨ ¬ y6 = 0 ∧ (s.size : Int) < a6) := by
    by_cases he : e5 = 0
    · refine .inr ⟨he, ?_⟩
      have h2 : s.data.toList.length = s.size := Array.length_toList
      rcases hy6 he with h | h
      · exact .inl h
      · by_cases h0 : y6 = 0
        · exact .inl h0
        · exact .inr ⟨h0, by omega⟩
    · exact .inl he
  rcases hone with rfl | ⟨hn4, rfl, rfl⟩ <;> rcases htwo with he | ⟨rfl, rfl | ⟨hn6, ha6⟩⟩
  all_goals go_wp2_with fail
  all_goals go_returns
  all_goals exact ⟨by simp, below_on hb6' (by go_grown)⟩
theorem Cuts_walk (s : ByteArray) (k : Int) (more : ByteArray) (hk : 0 ≤ k ∧ k < 256) (hs : s.size ≤ maxLen) (hm : more.size ≤ 140737488351232) (w : World) (hT : Tabs w) :
    Calls Tryz.prog 6 #[.string s, .int .u8 k, .string more] w fun e w' => e = .returned (.bool true) ∧ Below w.heap.size w w' := by
  cases hp : parseL s.data.toList with
  | ok x M => exact Cuts_ok s more k hk hs hm w hT x M hp
  | bad a y => exact Cuts_bad s more k hk hs (by unfold maxLen; omega) w hT a y hp
end Go.Proofs.YtefenbonjepjgaaGreatDoor
namespace Go.Proofs.YtefenbonjepjgaaGreatDoor
open Go.ChangeShapes Go.WideShapes Go.ChangeAt Go.RowKit
set_option linter.unusedVariables false
set_option linter.unusedSimpArgs false

set_option maxRecDepth 100000 in
theorem syntaxCuts_contract (H : Type) (enc : TypeId × Value → H) (W : World) (base : Nat) (args : Array Value) (ds gs : List (DataW H)) (before : List MemPlace)
    (hval0 : ∀ (j : Nat) t v, Tryz.f6.params[j]? = some t → args[j]? = some v → Value.okWide Tryz.prog W .any base t v)
    (hW : DataW.Whole enc Tryz.prog Tryz.f6.params.toList Rows.syntaxCutsSpec.vars false W args.toList ds gs before) 
    (hsz : (DataW.weightsEach Tryz.prog (Tryz.f6.params.toList ++ (OpenSpec.ofChange Rows.syntaxCutsSpec).bare.plain.varTypes Tryz.prog) (ds ++ gs)).all (· ≤ reachBytes) = true) (hL : laidMetH Tryz.prog Rows.syntaxCutsRow.laid W) :
    Calls Tryz.prog 6 args W fun e W' => ∃ v, e = .returned v ∧ Rows.syntaxCutsSpec.post enc Tryz.prog Tryz.f6 false true false false W args v W' := by
  have hval : ∀ (j : Nat) t v, Tryz.f6.params[j]? = some t → args[j]? = some v → Value.okWide Tryz.prog W .any base t v := hval0
  have hW' := hW
  obtain ⟨p, q, hA0, hV, rfl, hfz, hnd⟩ := hW
  have hA : DataW.TrodAll enc Tryz.prog W 0 (fun _ => true) true Tryz.f6.params.toList args.toList ds p := hA0
  rw [Tryz.params6] at hA hval
  obtain ⟨v0, vs0, d0, ds0, p0, q0, hargs, rfl, rfl, h0, r0⟩ := trodAll_cons hA
  obtain ⟨v1, vs1, d1, ds1, p1, q1, rfl, rfl, rfl, h1, r1⟩ := trodAll_cons r0
  obtain ⟨v2, vs2, d2, ds2, p2, q2, rfl, rfl, rfl, h2, r2⟩ := trodAll_cons r1
  obtain ⟨rfl, rfl, rfl⟩ := trodAll_nil r2
  obtain rfl : args = #[v0, v1, v2] := by cases args; simp_all
  obtain ⟨rfl, rfl⟩ := trodVars_none hV
  have m0 := h0
  have lt0 : ∀ x ∈ p0, x.block < W.heap.size := by obtain ⟨m, hm⟩ := m0; exact DataW.trod_lt m _ _ _ hm
  have m1 := h1
  have lt1 : ∀ x ∈ p1, x.block < W.heap.size := by obtain ⟨m, hm⟩ := m1; exact DataW.trod_lt m _ _ _ hm
  have m2 := h2
  have lt2 : ∀ x ∈ p2, x.block < W.heap.size := by obtain ⟨m, hm⟩ := m2; exact DataW.trod_lt m _ _ _ hm
  obtain ⟨s, rfl, hs, es⟩ : ∃ s, v0 = .string s ∧ s.size ≤ maxLen ∧ d0 = .lit (.string s.data.toList) := by
    obtain ⟨s, rfl⟩ := okWide_string Tryz.underlying9 (hval 0 9 v0 rfl rfl)
    obtain ⟨fuel, hf⟩ := h0
    obtain ⟨s3, e3, x3, w3⟩ := DataW.trod_string Tryz.underlying9 hf
    simp [Value.cells] at e3
    subst e3
    exact ⟨_, rfl, w3, congrArg Prod.fst x3⟩
  obtain ⟨k, rfl, rfl, rfl, hk⟩ := open_int Tryz.underlying5 (hval 1 5 v1 rfl rfl) h1
  replace hk : 0 ≤ k ∧ k < 256 := by
    simp [Lit.wf, IntKind.min, IntKind.max, IntKind.signed, IntKind.bits] at hk
    omega
  obtain ⟨more, rfl, hmore, emore⟩ : ∃ s, v2 = .string s ∧ s.size ≤ maxLen ∧ d2 = .lit (.string s.data.toList) := by
    obtain ⟨s, rfl⟩ := okWide_string Tryz.underlying9 (hval 2 9 v2 rfl rfl)
    obtain ⟨fuel, hf⟩ := h2
    obtain ⟨s3, e3, x3, w3⟩ := DataW.trod_string Tryz.underlying9 hf
    simp [Value.cells] at e3
    subst e3
    exact ⟨_, rfl, w3, congrArg Prod.fst x3⟩
  have hzs : s.size ≤ 140737488351232 := by
    have h2 : s.data.toList.length = s.size := Array.length_toList
    have hx := List.all_eq_true.1 hsz _ (DataW.weights_mem_each (j := 0) (t := 9) (by rw [Tryz.params6]; rfl) rfl s.data.toList.length (by rw [es]; simp [DataW.weights]))
    have hy : s.data.toList.length ≤ reachBytes := by simpa using hx
    unfold reachBytes at hy
    omega
  have hzmore : more.size ≤ 140737488351232 := by
    have h2 : more.data.toList.length = more.size := Array.length_toList
    have hx := List.all_eq_true.1 hsz _ (DataW.weights_mem_each (j := 2) (t := 9) (by rw [Tryz.params6]; rfl) rfl more.data.toList.length (by rw [emore]; simp [DataW.weights]))
    have hy : more.data.toList.length ≤ reachBytes := by simpa using hx
    unfold reachBytes at hy
    omega
  clear hA0 hval0 hval
  refine (Cuts_walk s k more hk hs hzmore W (tabs_of hL)).mono fun e W' ⟨he, bel⟩ => ?_
  subst he
  exact ⟨_, rfl, _, _, _, [], _, [], hW', trodAll_mk1 (shut_bool Tryz.underlying4 _), (trodAll_cons_mk (Below.trod laidOut (by kernel_rfl) (of_decide_eq_true (by kernel_rfl)) m0 bel lt0) (trodAll_cons_mk (Below.trod laidOut (by kernel_rfl) (of_decide_eq_true (by kernel_rfl)) m1 bel lt1) (trodAll_cons_mk (Below.trod laidOut (by kernel_rfl) (of_decide_eq_true (by kernel_rfl)) m2 bel lt2) trodAll_mk0))), rfl, bel.frame _, fun h => by cases h⟩

theorem syntaxCuts_reads (os : Os) {H : Type} (enc : TypeId × Value → H) : ∃ places, DataW.whole enc Tryz.prog ((laidWorld os).forCall (fun _ _ => 0) ⟨#[], #[.string ⟨#[]⟩, .int .u8 0, .string ⟨#[]⟩], []⟩).memory Tryz.f6.params.toList Rows.syntaxCutsSpec.vars false #[.string ⟨#[]⟩, .int .u8 0, .string ⟨#[]⟩].toList 8 = some ([.lit (.string []), .lit (.int .u8 0), .lit (.string [])], [], places) :=
  ⟨[], by kernel_rfl⟩

set_option maxRecDepth 100000 in
theorem syntaxCuts_lifted (os : Os) (started : os.Started) (H : Type) (enc : TypeId × Value → H) (F : Stop.Interp) :
    ReturnsInHanded {} Tryz.checked os 6 .any ((OpenSpec.ofChange Rows.syntaxCutsSpec).preRow enc Tryz.prog Tryz.f6 Rows.syntaxCutsRow.domain false Rows.syntaxCutsRow.laid) (((OpenSpec.ofChange Rows.syntaxCutsSpec).at F).post enc Tryz.prog Tryz.f6 false true false false) := by
  obtain ⟨places, hx⟩ := syntaxCuts_reads os enc
  refine returnsInHanded_of_row (C := Tryz.checked) (s := (OpenSpec.ofChange Rows.syntaxCutsSpec)) own started (by kernel_rfl) Tryz.func6
    (witness_row_shaped (enc := enc) (C := Tryz.checked) false (laidWorld os) #[.string ⟨#[]⟩, .int .u8 0, .string ⟨#[]⟩] (laid_os os) (World.shaped_of_ZipB (by kernel_rfl) (by kernel_rfl)) (by kernel_rfl)
      (OpenSpec.preRow_of_cond 8 hx (by kernel_rfl) (fun k hk => by cases hk) (by kernel_rfl) (laid_met os #[.string ⟨#[]⟩, .int .u8 0, .string ⟨#[]⟩]))) ?_
  intro W base args ds gs before hval hW _ hcond hsz hL _ _
  exact syntaxCuts_contract H enc W base args ds gs before hval hW hsz hL

theorem syntaxCuts_said : Rows.SyntaxCutsSaid :=
  OpenClaim.holds_of_cond 6 Tryz.f6 rfl rfl rfl rfl rfl rfl rfl ⟨rfl, rfl, rfl, rfl, rfl⟩ rfl rfl rfl rfl rfl (by kernel_rfl) Tryz.func6 (by kernel_rfl)
    (of_decide_eq_true (by kernel_rfl)) (by unfold Func.isWrapper; first | (rw [if_pos (by decide +kernel)]; kernel_rfl) | (rw [if_neg (by decide +kernel)]; exact ⟨rfl, rfl⟩))
    (fun os started H enc _ F => by rw [OpenClaim.pre_eq_preRow]; exact syntaxCuts_lifted os started H enc F)

theorem syntaxCuts_plain (f : FuncId) (fn : Func) (hf : Tryz.pinned.checked.prog.funcNamed "portolan/portolanlaw08.SyntaxCuts" = some f) (hfn : Tryz.pinned.checked.prog.funcs[f]? = some fn) :
    true = Tryz.pinned.checked.prog.looks [] ∧ ∀ (j : Nat) t, fn.params[j]? = some t → Tryz.pinned.checked.prog.wantsStandIn t = false := by
  obtain rfl : f = 6 := Option.some.inj ((show Tryz.prog.funcNamed "portolan/portolanlaw08.SyntaxCuts" = some 6 by kernel_rfl).symm.trans hf) |>.symm
  obtain rfl : fn = Tryz.f6 := (Option.some.inj (Tryz.func6.symm.trans hfn)).symm
  refine ⟨by kernel_rfl, fun j t ht => ?_⟩
  rw [Tryz.params6] at ht
  have ht2 : t = 9 ∨ t = 5 ∨ t = 9 := by simpa using Array.mem_of_getElem? ht
  rcases ht2 with rfl | rfl | rfl
  · exact (show Tryz.prog.wantsStandIn 9 = false by kernel_rfl)
  · exact (show Tryz.prog.wantsStandIn 5 = false by kernel_rfl)
  · exact (show Tryz.prog.wantsStandIn 9 = false by kernel_rfl)

theorem syntaxCuts_holds : Rows.SyntaxCutsCardSaid :=
  Claim7.holds_tied_plain_at .later [] _ _ _ _ syntaxCuts_said (fun _ h => by cases h) (by kernel_rfl) (fun _ h => by cases h) syntaxCuts_row_tie rfl ⟨rfl, rfl⟩ (by kernel_rfl) rfl syntaxCuts_plain (by kernel_rfl)
end Go.Proofs.YtefenbonjepjgaaGreatDoor
