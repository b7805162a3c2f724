/-
  The tables that the program reads, out of the rows' laid variables.
  The table of forms, out of the rows' laid variables.
-/
import Derived.Test.YtkcnpbckmdgfnaaGreatDoorVsh
import Derived.Test.YtkcnpbckmdgfnaaGreatDoorFmo
import Derived.Test.YtkcnpbckmdgfnaaGreatDoorVal
import Derived.Test.YtkcnpbckmdgfnaaGreatDoorProg
import Derived.Lib.LaidU8T
import Derived.Lay
import Derived.LaidLaws
import Derived.OpenShut
import Derived.ChangeSlices
namespace Go.Proofs.YtkcnpbckmdgfnaaGreatDoor
open Go.ChangeShapes Go.WideShapes Go.ChangeAt Go.RowKit Go.Lib
set_option linter.unusedSimpArgs false
set_option linter.unusedVariables false

theorem valid_any (s : ByteArray) (hs : s.size ≤ 9223372036854775807) (w : World) (hT : Tabs w) : Calls Tryz.prog 105 #[.string s] w fun e w' => e = .returned (.bool (Lib.validD s.data.toList)) ∧ Below w.heap.size w w' :=
  Tryz.validString s w hs hT.u8
/-- An array of texts that reads as these holds them. -/
theorem strs_of_arr {H : Type} {enc : TypeId × Value → H} {P : Program} {w : World} {base : Nat} {sp : Nat → Bool} {held : Bool} {fuel : Nat} {t e : TypeId} {n : Nat} {cs : List Value} {zs : List (List UInt8)} {p : List MemPlace}
    (ht : P.underlying t = some (.array n e)) (he : P.underlying e = some .string) (hce : P.cellsOf e = 1) (hct : P.cellsOf t = n)
    (h : DataW.trod enc P w base sp held fuel t cs = some (.agg (zs.map fun z => .lit (.string z)), p)) : cs = zs.map fun z => Value.string (txt z) := by
  cases fuel with
  | zero => simp [DataW.trod] at h
  | succ fuel =>
    simp only [DataW.trod, ht, hce, hct, Nat.mul_one] at h
    split at h
    · rename_i hl
      obtain ⟨xs, hm, hx⟩ := Option.map_eq_some_iff.1 h
      have hxs : xs.map (·.1) = zs.map fun z => (DataW.lit (.string z) : DataW H) := by
        have := congrArg Prod.fst hx
        simpa using this
      have hxl : xs.length = n := by simpa using mapM_length hm
      have hzl : zs.length = n := by
        have := congrArg List.length hxs
        simp at this
        omega
      apply List.ext_getElem?
      intro i
      by_cases hi : i < n
      · obtain ⟨b, hb, hf⟩ := mapM_at hm i i (by simp [hi])
        obtain ⟨z, hc, rfl, _⟩ := DataW.trod_string he hf
        have h1 : cs[i]? = some (.string z) := by
          have := congrArg (·[0]?) hc
          simpa [List.getElem?_take, List.getElem?_drop] using this
        have h2 : (xs.map (·.1))[i]? = some (DataW.lit (.string z.data.toList) : DataW H) := by simp [hb]
        rw [hxs] at h2
        simp only [List.getElem?_map, Option.map_eq_some_iff, DataW.lit.injEq, Lit.string.injEq] at h2
        obtain ⟨z', hz', e2⟩ := h2
        rw [h1, List.getElem?_map, hz', e2]
        simp [txt]
      · rw [List.getElem?_eq_none (by omega), List.getElem?_eq_none (by simp; omega)]
    · cases h
/-- An error that reads as one of its own type is one. -/
theorem iface_of {H : Type} {enc : TypeId × Value → H} {P : Program} {w : World} {base : Nat} {sp : Nat → Bool} {held : Bool} {fuel : Nat} {t : TypeId} {ms : Array (String × TypeId)} {cs : List Value} {n : String} {d : DataW H} {p : List MemPlace}
    (ht : P.underlying t = some (.interface ms)) (h : DataW.trod enc P w base sp held fuel t cs = some (.iface n d, p)) : ∃ u x, cs = [.iface u x] := by
  cases fuel with
  | zero => simp [DataW.trod] at h
  | succ fuel =>
    unfold DataW.trod at h
    rw [ht] at h
    split at h <;> simp_all
theorem block_of_var {P : Program} {w : World} {n : String} {g : Nat} {cs : Array Value} (hg : P.globalNamed n = some g) (h : w.var? P n = some cs) : ∃ t fr, w.heap[g]? = some (.cells cs t fr) := by
  unfold World.var? at h
  rw [hg] at h
  simp only [Option.bind_some] at h
  split at h
  · rename_i cs' t fr hh
    cases h
    exact ⟨t, fr, hh⟩
  · cases h
theorem gk : Tryz.prog.globalNamed "portolan/lex.keys" = some 1 := by kernel_rfl
theorem gs : Tryz.prog.globalNamed "portolan/lex.signs" = some 5 := by kernel_rfl
theorem gr : Tryz.prog.globalNamed "strconv.ErrRange" = some 9 := by kernel_rfl
theorem tk : (Tryz.prog.globals[1]?).map (·.type) = some 175 := by kernel_rfl
theorem ts : (Tryz.prog.globals[5]?).map (·.type) = some 194 := by kernel_rfl
theorem tr : (Tryz.prog.globals[9]?).map (·.type) = some 135 := by kernel_rfl
theorem t4 : (Tryz.prog.globals[4]?).map (·.type) = some 184 := by kernel_rfl
theorem cells9 : Tryz.prog.cellsOf 9 = 1 := by kernel_rfl
theorem cells175 : Tryz.prog.cellsOf 175 = 23 := by kernel_rfl
theorem cells194 : Tryz.prog.cellsOf 194 = 19 := by kernel_rfl
theorem cells164 : Tryz.prog.cellsOf 164 = 1 := by kernel_rfl
theorem cells184 : Tryz.prog.cellsOf 184 = 20 := by kernel_rfl
def arrS {H : Type} (L : List (List UInt8)) : DataW H := .agg (L.map fun z => .lit (.string z))
def formD {H : Type} (f : Fm) : DataW H := .agg [.lit (.int .i64 f.lvl), (if f.pl = [] then .nil else .slice (f.pl.map fun z => .lit (.int .i64 z)) []), .lit (.string f.ah), .lit (.string f.bt), .lit (.string f.be), .lit (.bool f.dp)]
def formsD {H : Type} : DataW H := .agg (formsL.map formD)
theorem laid_eq : Rows.printerPairsRow.laid = [("math/bits.deBruijn32tab", Rows.laid_math_bits_deBruijn32tab), ("math/bits.deBruijn64tab", Rows.laid_math_bits_deBruijn64tab), ("internal/strconv.uint64pow10", Lib.tabData .u64 Lib.pow10Tab), ("unicode/utf8.acceptRanges", acceptData), ("strconv.ErrRange", Rows.laid_strconv_ErrRange), ("strconv.ErrSyntax", Rows.laid_strconv_ErrSyntax), ("portolan/lex.keys", arrS keysL), ("portolan/lex.signs", arrS signsL), ("portolan/printer.forms", formsD), ("unicode/utf8.first", firstData)] := by kernel_rfl
theorem tabs_of {W : World} (hL : laidMetH Tryz.prog Rows.printerPairsRow.laid W) : Tabs W := by
  have hr : ∀ n d, (n, d) ∈ Rows.printerPairsRow.laid → VarReads Tryz.prog W n d := fun n d hm => Lib.laidMet.reads hL hm
  rw [laid_eq] at hr
  refine ⟨?_, ?_, ?_, ?_, ?_, ?_⟩
  · exact utf8Tabs_of_readsT (U8Types.of196 Tryz.laysValid) ⟨by kernel_rfl, by kernel_rfl, by kernel_rfl, by kernel_rfl, by kernel_rfl, by kernel_rfl, by kernel_rfl⟩ (hr _ _ (by simp)) (hr _ _ (by simp))
  · obtain ⟨g, t, cs, fuel, p, hg, hty, hvar, hd⟩ := hr "portolan/lex.keys" (arrS keysL) (by simp)
    obtain rfl := Option.some.inj (gk.symm.trans hg)
    obtain rfl := Option.some.inj (tk.symm.trans hty)
    have := strs_of_arr Tryz.underlying175 Tryz.underlying9 cells9 cells175 hd
    obtain ⟨t', fr, hb⟩ := block_of_var gk hvar
    exact ⟨t', fr, by rw [hb]; unfold rowT; rw [← this]⟩
  · obtain ⟨g, t, cs, fuel, p, hg, hty, hvar, hd⟩ := hr "portolan/lex.signs" (arrS signsL) (by simp)
    obtain rfl := Option.some.inj (gs.symm.trans hg)
    obtain rfl := Option.some.inj (ts.symm.trans hty)
    have := strs_of_arr Tryz.underlying194 Tryz.underlying9 cells9 cells194 hd
    obtain ⟨t', fr, hb⟩ := block_of_var gs hvar
    exact ⟨t', fr, by rw [hb]; unfold rowT; rw [← this]⟩
  · obtain ⟨g, t, cs, fuel, p, hg, hty, hvar, hd⟩ := hr "internal/strconv.uint64pow10" (Lib.tabData .u64 Lib.pow10Tab) (by simp)
    obtain rfl := Option.some.inj (pow10_named.symm.trans hg)
    obtain rfl := Option.some.inj (t4.symm.trans hty)
    have := cells_of_tab Tryz.underlying184 Tryz.underlying164 cells164 cells184 hd
    unfold Lib.TabIs
    rw [hvar, ← this]
  · obtain ⟨g, t, cs, fuel, p, hg, hty, hvar, hd⟩ := hr "strconv.ErrRange" Rows.laid_strconv_ErrRange (by simp)
    obtain rfl := Option.some.inj (gr.symm.trans hg)
    obtain rfl := Option.some.inj (tr.symm.trans hty)
    obtain ⟨u, x, hc⟩ := iface_of Tryz.underlying135 hd
    refine ⟨.iface u x, ?_, .inr ⟨u, x, rfl⟩⟩
    have := World.var?_cell gr hvar 0
    rw [this, ← Array.getElem?_toList, hc]
    rfl
  · obtain ⟨g, t, cs, fuel, p, hg, hty, hvar, hd⟩ := hr "strconv.ErrRange" Rows.laid_strconv_ErrRange (by simp)
    obtain ⟨t', fr, hb⟩ := block_of_var gr hvar
    have := (Array.getElem?_eq_some_iff.1 hb).1
    omega
theorem own : ownKnob Tryz.prog.godebug = none := by kernel_rfl
theorem laidOut : laidOutB Tryz.prog = true := by kernel_rfl
/-- There is an input that fits, at a world whose shape is shown. -/
theorem witness_row_shaped {H : Type} {enc : TypeId × Value → H} {C : Checked} {os : Os} {f : FuncId} {fn : Func} {s : OpenSpec} {conds : List PathCond} {apart : Bool} {laid : List (String × DataW Unit)} (modest : Bool) (w0 : World) (args : Array Value) (hos : w0.os = os)
    (hsh : (w0.forCall (fun _ _ => 0) ⟨#[], args, []⟩).Shaped C.prog)
    (hok : Input.okWideB C.prog (w0.forCall (fun _ _ => 0) ⟨#[], args, []⟩) f ⟨#[], args, []⟩ = true)
    (hrow : s.preRow enc C.prog fn conds apart laid (w0.forCall (fun _ _ => 0) ⟨#[], args, []⟩).memory args) :
    ∃ (w : World) (tape : Tape) (i : Input), w.os = os ∧ (w.forCall tape i).Shaped C.prog ∧ i.vars = [] ∧ Input.okWide C.prog (w.forCall tape i) .any w.heap.size f i ∧
      s.preRow enc C.prog fn conds apart laid (w.forCall tape i).memory i.args ∧ ({ modest := modest } : Assume).holds C.prog (lone (Frame.enter C.prog f i.args .normal) [] (w.forCall tape i)) :=
  ⟨w0, fun _ _ => 0, ⟨#[], args, []⟩, hos, hsh, (Input.okWide_of_okWideB (base := 0) hok).1, (Input.okWide_of_okWideB hok).2, hrow, by
    simp only [Assume.holds]
    exact ⟨by simp, by simp, fun _ => Modest.zero, by simp, by simp⟩⟩
/-- A world in which the listed variables hold what the program's text lays. -/
noncomputable def laidWorld (os : Os) : World := World.laidAll Tryz.prog os Rows.printerPairsRow.laid
theorem laid_os (os : Os) : (laidWorld os).os = os := World.laidAll_os _ _ _
theorem laid_met (os : Os) (args : Array Value) : laidMet Tryz.prog Rows.printerPairsRow.laid ((laidWorld os).forCall (fun _ _ => 0) ⟨#[], args, []⟩).memory :=
  laidMet_laidAll args (by kernel_rfl) (by kernel_rfl)
end Go.Proofs.YtkcnpbckmdgfnaaGreatDoor
namespace Go.Proofs.YtkcnpbckmdgfnaaGreatDoor
open Go.ChangeShapes Go.WideShapes Go.ChangeAt Go.RowKit Go.Lib
set_option linter.unusedSimpArgs false
set_option linter.unusedVariables false

theorem list6 {α : Type} {l : List α} (h : l.length = 6) : ∃ c0 c1 c2 c3 c4 c5, l = [c0, c1, c2, c3, c4, c5] := by
  match l, h with
  | [c0, c1, c2, c3, c4, c5], _ => exact ⟨c0, c1, c2, c3, c4, c5, rfl⟩
theorem fc124 : Tryz.prog.cellsOf 124 = 6 := by kernel_rfl
theorem fc155 : Tryz.prog.cellsOf 155 = 162 := by kernel_rfl
theorem fc3 : Tryz.prog.cellsOf 3 = 1 := by kernel_rfl
theorem fc122 : Tryz.prog.cellsOf 122 = 1 := by kernel_rfl
theorem fc4 : Tryz.prog.cellsOf 4 = 1 := by kernel_rfl
theorem lits_map (zs : List Int) {H : Type} : (lits (H := H) .i64 zs) = zs.map fun z => .lit (.int .i64 z) := rfl
theorem lits_inj {H : Type} : ∀ (a b : List Int), (a.map fun z => (DataW.lit (.int .i64 z) : DataW H)) = (b.map fun z => .lit (.int .i64 z)) → a = b
  | [], [], _ => rfl
  | [], _ :: _, h => by simp at h
  | _ :: _, [], h => by simp at h
  | x :: r, y :: s, h => by
    simp only [List.map_cons, List.cons.injEq, DataW.lit.injEq, Lit.int.injEq, true_and] at h
    obtain ⟨rfl, h2⟩ := h
    rw [lits_inj r s h2]
/-- A row of the table. -/
theorem form_of {H : Type} {enc : TypeId × Value → H} {W : World} {held : Bool} {fuel : Nat} {cs : List Value} {p : List MemPlace} (f : Fm) (h : DataW.trod enc Tryz.prog W 0 (fun _ => true) held fuel 124 cs = some (formD f, p)) :
    ∃ pp c, cs = [.int .i64 f.lvl, .slice pp f.pl.length c, .string (txt f.ah), .string (txt f.bt), .string (txt f.be), .bool f.dp] ∧ V2.PathAt W pp f.pl := by
  obtain ⟨xs, n, _, hx, hl, hxl, hget⟩ := DataW.trod_struct Tryz.underlying124 h
  rw [fc124] at hl
  obtain ⟨a0, a1, a2, a3, a4, a5, rfl⟩ := list6 hl
  obtain ⟨y0, y1, y2, y3, y4, y5, rfl⟩ := list6 (l := xs) (by rw [hxl]; rfl)
  have g0 : DataW.trod enc Tryz.prog W 0 (fun _ => true) held n 3 (([a0, a1, a2, a3, a4, a5].drop 0).take (Tryz.prog.cellsOf 3)) = ([y0, y1, y2, y3, y4, y5] : List _)[0]? := hget 0 _ rfl
  have g1 : DataW.trod enc Tryz.prog W 0 (fun _ => true) held n 122 (([a0, a1, a2, a3, a4, a5].drop 1).take (Tryz.prog.cellsOf 122)) = ([y0, y1, y2, y3, y4, y5] : List _)[1]? := hget 1 _ rfl
  have g2 : DataW.trod enc Tryz.prog W 0 (fun _ => true) held n 9 (([a0, a1, a2, a3, a4, a5].drop 2).take (Tryz.prog.cellsOf 9)) = ([y0, y1, y2, y3, y4, y5] : List _)[2]? := hget 2 _ rfl
  have g3 : DataW.trod enc Tryz.prog W 0 (fun _ => true) held n 9 (([a0, a1, a2, a3, a4, a5].drop 3).take (Tryz.prog.cellsOf 9)) = ([y0, y1, y2, y3, y4, y5] : List _)[3]? := hget 3 _ rfl
  have g4 : DataW.trod enc Tryz.prog W 0 (fun _ => true) held n 9 (([a0, a1, a2, a3, a4, a5].drop 4).take (Tryz.prog.cellsOf 9)) = ([y0, y1, y2, y3, y4, y5] : List _)[4]? := hget 4 _ rfl
  have g5 : DataW.trod enc Tryz.prog W 0 (fun _ => true) held n 4 (([a0, a1, a2, a3, a4, a5].drop 5).take (Tryz.prog.cellsOf 4)) = ([y0, y1, y2, y3, y4, y5] : List _)[5]? := hget 5 _ rfl
  simp only [fc3, fc122, fc4, cells9, List.drop_zero, List.drop_succ_cons, List.take_succ_cons, List.take_zero, List.getElem?_cons_zero, List.getElem?_cons_succ] at g0 g1 g2 g3 g4 g5
  have hd := congrArg Prod.fst hx
  simp only [formD, List.map_cons, List.map_nil, DataW.agg.injEq, List.cons.injEq, and_true] at hd
  obtain ⟨d0, d1, d2, d3, d4, d5⟩ := hd
  obtain ⟨z0, e0, x0, _⟩ := DataW.trod_int Tryz.underlying3 g0
  obtain ⟨s2, e2, x2, _⟩ := DataW.trod_string Tryz.underlying9 g2
  obtain ⟨s3, e3, x3, _⟩ := DataW.trod_string Tryz.underlying9 g3
  obtain ⟨s4, e4, x4, _⟩ := DataW.trod_string Tryz.underlying9 g4
  obtain ⟨z5, e5, x5⟩ := DataW.trod_bool Tryz.underlying4 g5
  rw [x0] at d0
  rw [x2] at d2
  rw [x3] at d3
  rw [x4] at d4
  rw [x5] at d5
  simp only [DataW.lit.injEq, Lit.int.injEq, Lit.string.injEq, Lit.bool.injEq, true_and] at d0 d2 d3 d4 d5
  simp only [List.cons.injEq, and_true] at e0 e2 e3 e4 e5
  have t2 : s2 = txt f.ah := by rw [d2, txt_of]
  have t3 : s3 = txt f.bt := by rw [d3, txt_of]
  have t4 : s4 = txt f.be := by rw [d4, txt_of]
  subst e0 e2 e3 e4 e5 t2 t3 t4
  rw [← d0, ← d5]
  rcases open_ints Tryz.underlying122 Tryz.underlying3 fc3 g1 with ⟨e1, x1⟩ | ⟨a, len, cap, zs, e1, _, hlc, _, hz, x1, hcell, _⟩
  · rw [x1] at d1
    simp only [List.cons.injEq, and_true] at e1
    subst e1
    have hp : f.pl = [] := by
      by_cases hp : f.pl = []
      · exact hp
      · rw [if_neg hp] at d1; cases d1
    exact ⟨none, 0, by rw [hp]; rfl, .inl hp⟩
  · rw [x1] at d1
    simp only [List.cons.injEq, and_true] at e1
    subst e1
    by_cases hp : f.pl = []
    · rw [if_pos hp] at d1; cases d1
    · rw [if_neg hp] at d1
      simp only [DataW.slice.injEq] at d1
      obtain ⟨d1, d1r⟩ := d1
      have hzl : zs.take len = f.pl := (lits_inj _ _ d1).symm
      simp only [if_true] at hz
      have hlen : f.pl.length = len := by rw [← hzl, List.length_take]; omega
      have hpos : 0 < f.pl.length := List.length_pos_iff.2 hp
      obtain ⟨b, off, rfl, hc⟩ := ints_at hcell (by omega)
      refine ⟨some ⟨b, off, none⟩, cap, by rw [hlen], .inr ⟨b, off, rfl, fun i hi => ?_⟩⟩
      rw [hc i (by omega), ← hzl]
      simp [List.getD, List.getElem?_take_of_lt (show i < len by omega)]
theorem gfo : Tryz.prog.globalNamed "portolan/printer.forms" = some 0 := by kernel_rfl
theorem tfo : (Tryz.prog.globals[0]?).map (·.type) = some 155 := by kernel_rfl
theorem take_row (cs : List Value) (i : Nat) {a0 a1 a2 a3 a4 a5 : Value} (h : (cs.drop (i * 6)).take 6 = [a0, a1, a2, a3, a4, a5]) : cs[i * 6]? = some a0 ∧ cs[i * 6 + 1]? = some a1 ∧ cs[i * 6 + 2]? = some a2 ∧ cs[i * 6 + 3]? = some a3 ∧ cs[i * 6 + 4]? = some a4 ∧ cs[i * 6 + 5]? = some a5 := by
  have key : ∀ j, j < 6 → cs[i * 6 + j]? = ([a0, a1, a2, a3, a4, a5] : List Value)[j]? := by
    intro j hj
    rw [← h, List.getElem?_take_of_lt hj, List.getElem?_drop]
  exact ⟨key 0 (by decide), key 1 (by decide), key 2 (by decide), key 3 (by decide), key 4 (by decide), key 5 (by decide)⟩
theorem forms_of {W : World} (hL : laidMetH Tryz.prog Rows.printerPairsRow.laid W) : FormsAt W := by
  have hr : ∀ n d, (n, d) ∈ Rows.printerPairsRow.laid → VarReads Tryz.prog W n d := fun n d hm => Lib.laidMet.reads hL hm
  rw [laid_eq] at hr
  obtain ⟨g, t, cs, fuel, p, hg, hty, hvar, hd⟩ := hr "portolan/printer.forms" formsD (by simp)
  obtain rfl := Option.some.inj (gfo.symm.trans hg)
  obtain rfl := Option.some.inj (tfo.symm.trans hty)
  obtain ⟨xs, n, _, hx, hl, hxl, hget⟩ := DataW.trod_array Tryz.underlying155 hd
  have hfst := congrArg Prod.fst hx
  unfold formsD at hfst
  simp only [DataW.agg.injEq] at hfst
  rw [fc124] at hget
  intro i hi
  have hlen : formsL.length = 27 := rfl
  have hfi : formsL[i]? = some (formsL.getD i fz) := by
    rw [List.getD_eq_getElem?_getD, List.getElem?_eq_getElem (by omega), Option.getD_some]
  have hxi : ∃ pi, xs[i]? = some (formD (formsL.getD i fz), pi) := by
    have h1 := congrArg (fun l => l[i]?) hfst
    simp only [List.getElem?_map, hfi, Option.map_some] at h1
    cases hq : xs[i]? with
    | none => rw [hq] at h1; cases h1
    | some z =>
      rw [hq, Option.map_some] at h1
      exact ⟨z.2, by rw [Option.some.inj h1]⟩
  obtain ⟨pi, hxi⟩ := hxi
  have hgi := hget i hi
  rw [hxi] at hgi
  obtain ⟨pp, c, hcs, hp⟩ := form_of _ hgi
  obtain ⟨c0, c1, c2, c3, c4, c5⟩ := take_row cs.toList i hcs
  have hv : ∀ j v, cs.toList[j]? = some v → W.cell? ⟨0, j, none⟩ = some v := fun j v h => by
    rw [World.var?_cell gfo hvar j, ← Array.getElem?_toList]; exact h
  exact ⟨hv _ _ c0, ⟨pp, c, hv _ _ c1, hp⟩, hv _ _ c2, hv _ _ c3, hv _ _ c4, hv _ _ c5⟩
end Go.Proofs.YtkcnpbckmdgfnaaGreatDoor
