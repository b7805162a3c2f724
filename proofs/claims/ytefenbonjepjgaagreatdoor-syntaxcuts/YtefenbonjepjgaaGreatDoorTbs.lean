/-
  The tables that the rows list, as the walks want them; a world in which they are laid.
-/
import Derived.Test.YtefenbonjepjgaaGreatDoorVal
import Derived.Test.YtefenbonjepjgaaGreatDoorVsh
import Derived.Lib.LaidU8T
import Derived.Lay
import Derived.LaidLaws
namespace Go.Proofs.YtefenbonjepjgaaGreatDoor
open Go.ChangeShapes Go.WideShapes Go.ChangeAt Go.RowKit Go.Lib
set_option linter.unusedSimpArgs false
set_option linter.unusedVariables false

theorem valid_any (s : ByteArray) (hs : s.size ≤ 9223372036854775807) (w : World) (hT : Tabs w) : Calls Tryz.prog 117 #[.string s] w fun e w' => e = .returned (.bool (Lib.validD s.data.toList)) ∧ Below w.heap.size w w' :=
  Tryz.validString s w hs hT.u8
/-- An array of texts that reads as these holds them. -/
theorem strs_of_arr {H : Type} {enc : TypeId × Value → H} {P : Program} {w : World} {base : Nat} {sp : Nat → Bool} {held : Bool} {fuel : Nat} {t e : TypeId} {n : Nat} {cs : List Value} {zs : List (List UInt8)} {p : List MemPlace}
    (ht : P.underlying t = some (.array n e)) (he : P.underlying e = some .string) (hce : P.cellsOf e = 1) (hct : P.cellsOf t = n)
    (h : DataW.trod enc P w base sp held fuel t cs = some (.agg (zs.map fun z => .lit (.string z)), p)) : cs = zs.map fun z => Value.string (txt z) := by
  cases fuel with
  | zero => simp [DataW.trod] at h
  | succ fuel =>
    simp only [DataW.trod, ht, hce, hct, Nat.mul_one] at h
    split at h
    · rename_i hl
      obtain ⟨xs, hm, hx⟩ := Option.map_eq_some_iff.1 h
      have hxs : xs.map (·.1) = zs.map fun z => (DataW.lit (.string z) : DataW H) := by
        have := congrArg Prod.fst hx
        simpa using this
      have hxl : xs.length = n := by simpa using mapM_length hm
      have hzl : zs.length = n := by
        have := congrArg List.length hxs
        simp at this
        omega
      apply List.ext_getElem?
      intro i
      by_cases hi : i < n
      · obtain ⟨b, hb, hf⟩ := mapM_at hm i i (by simp [hi])
        obtain ⟨z, hc, rfl, _⟩ := DataW.trod_string he hf
        have h1 : cs[i]? = some (.string z) := by
          have := congrArg (·[0]?) hc
          simpa [List.getElem?_take, List.getElem?_drop] using this
        have h2 : (xs.map (·.1))[i]? = some (DataW.lit (.string z.data.toList) : DataW H) := by simp [hb]
        rw [hxs] at h2
        simp only [List.getElem?_map, Option.map_eq_some_iff, DataW.lit.injEq, Lit.string.injEq] at h2
        obtain ⟨z', hz', e2⟩ := h2
        rw [h1, List.getElem?_map, hz', e2]
        simp [txt]
      · rw [List.getElem?_eq_none (by omega), List.getElem?_eq_none (by simp; omega)]
    · cases h
/-- An error that reads as one of its own type is one. -/
theorem iface_of {H : Type} {enc : TypeId × Value → H} {P : Program} {w : World} {base : Nat} {sp : Nat → Bool} {held : Bool} {fuel : Nat} {t : TypeId} {ms : Array (String × TypeId)} {cs : List Value} {n : String} {d : DataW H} {p : List MemPlace}
    (ht : P.underlying t = some (.interface ms)) (h : DataW.trod enc P w base sp held fuel t cs = some (.iface n d, p)) : ∃ u x, cs = [.iface u x] := by
  cases fuel with
  | zero => simp [DataW.trod] at h
  | succ fuel =>
    unfold DataW.trod at h
    rw [ht] at h
    split at h <;> simp_all
theorem block_of_var {P : Program} {w : World} {n : String} {g : Nat} {cs : Array Value} (hg : P.globalNamed n = some g) (h : w.var? P n = some cs) : ∃ t fr, w.heap[g]? = some (.cells cs t fr) := by
  unfold World.var? at h
  rw [hg] at h
  simp only [Option.bind_some] at h
  split at h
  · rename_i cs' t fr hh
    cases h
    exact ⟨t, fr, hh⟩
  · cases h
theorem gk : Tryz.prog.globalNamed "portolan/lex.keys" = some 1 := by kernel_rfl
theorem gs : Tryz.prog.globalNamed "portolan/lex.signs" = some 0 := by kernel_rfl
theorem gr : Tryz.prog.globalNamed "strconv.ErrRange" = some 5 := by kernel_rfl
theorem gd : Tryz.prog.globalNamed "math/bits.deBruijn64tab" = some 9 := by kernel_rfl
theorem tk : (Tryz.prog.globals[1]?).map (·.type) = some 153 := by kernel_rfl
theorem ts : (Tryz.prog.globals[0]?).map (·.type) = some 137 := by kernel_rfl
theorem tr : (Tryz.prog.globals[5]?).map (·.type) = some 129 := by kernel_rfl
theorem t4 : (Tryz.prog.globals[7]?).map (·.type) = some 197 := by kernel_rfl
theorem cells9 : Tryz.prog.cellsOf 9 = 1 := by kernel_rfl
theorem cells153 : Tryz.prog.cellsOf 153 = 23 := by kernel_rfl
theorem cells137 : Tryz.prog.cellsOf 137 = 19 := by kernel_rfl
theorem cells161 : Tryz.prog.cellsOf 161 = 1 := by kernel_rfl
theorem cells197 : Tryz.prog.cellsOf 197 = 20 := by kernel_rfl
def arrS {H : Type} (L : List (List UInt8)) : DataW H := .agg (L.map fun z => .lit (.string z))
theorem laid_eq : Rows.syntaxLevelsRow.laid = [("math/bits.deBruijn32tab", Rows.laid_math_bits_deBruijn32tab), ("math/bits.deBruijn64tab", Rows.laid_math_bits_deBruijn64tab), ("internal/strconv.uint64pow10", Lib.tabData .u64 Lib.pow10Tab), ("unicode/utf8.acceptRanges", acceptData), ("strconv.ErrRange", Rows.laid_strconv_ErrRange), ("strconv.ErrSyntax", Rows.laid_strconv_ErrSyntax), ("portolan/lex.keys", arrS keysL), ("portolan/lex.signs", arrS signsL), ("unicode/utf8.first", firstData)] := by kernel_rfl
theorem tabs_of {W : World} (hL : laidMetH Tryz.prog Rows.syntaxLevelsRow.laid W) : Tabs W := by
  have hr : ∀ n d, (n, d) ∈ Rows.syntaxLevelsRow.laid → VarReads Tryz.prog W n d := fun n d hm => Lib.laidMet.reads hL hm
  rw [laid_eq] at hr
  refine ⟨?_, ?_, ?_, ?_, ?_, ?_⟩
  · exact utf8Tabs_of_readsT (U8Types.of196 Tryz.laysValid) ⟨by kernel_rfl, by kernel_rfl, by kernel_rfl, by kernel_rfl, by kernel_rfl, by kernel_rfl, by kernel_rfl⟩ (hr _ _ (by simp)) (hr _ _ (by simp))
  · obtain ⟨g, t, cs, fuel, p, hg, hty, hvar, hd⟩ := hr "portolan/lex.keys" (arrS keysL) (by simp)
    obtain rfl := Option.some.inj (gk.symm.trans hg)
    obtain rfl := Option.some.inj (tk.symm.trans hty)
    have := strs_of_arr Tryz.underlying153 Tryz.underlying9 cells9 cells153 hd
    obtain ⟨t', fr, hb⟩ := block_of_var gk hvar
    exact ⟨t', fr, by rw [hb]; unfold rowT; rw [← this]⟩
  · obtain ⟨g, t, cs, fuel, p, hg, hty, hvar, hd⟩ := hr "portolan/lex.signs" (arrS signsL) (by simp)
    obtain rfl := Option.some.inj (gs.symm.trans hg)
    obtain rfl := Option.some.inj (ts.symm.trans hty)
    have := strs_of_arr Tryz.underlying137 Tryz.underlying9 cells9 cells137 hd
    obtain ⟨t', fr, hb⟩ := block_of_var gs hvar
    exact ⟨t', fr, by rw [hb]; unfold rowT; rw [← this]⟩
  · obtain ⟨g, t, cs, fuel, p, hg, hty, hvar, hd⟩ := hr "internal/strconv.uint64pow10" (Lib.tabData .u64 Lib.pow10Tab) (by simp)
    obtain rfl := Option.some.inj (pow10_named.symm.trans hg)
    obtain rfl := Option.some.inj (t4.symm.trans hty)
    have := cells_of_tab Tryz.underlying197 Tryz.underlying161 cells161 cells197 hd
    unfold Lib.TabIs
    rw [hvar, ← this]
  · obtain ⟨g, t, cs, fuel, p, hg, hty, hvar, hd⟩ := hr "strconv.ErrRange" Rows.laid_strconv_ErrRange (by simp)
    obtain rfl := Option.some.inj (gr.symm.trans hg)
    obtain rfl := Option.some.inj (tr.symm.trans hty)
    obtain ⟨u, x, hc⟩ := iface_of Tryz.underlying129 hd
    refine ⟨.iface u x, ?_, .inr ⟨u, x, rfl⟩⟩
    have := World.var?_cell gr hvar 0
    rw [this, ← Array.getElem?_toList, hc]
    rfl
  · obtain ⟨g, t, cs, fuel, p, hg, hty, hvar, hd⟩ := hr "math/bits.deBruijn64tab" Rows.laid_math_bits_deBruijn64tab (by simp)
    obtain ⟨t', fr, hb⟩ := block_of_var gd hvar
    have := (Array.getElem?_eq_some_iff.1 hb).1
    omega
theorem own : ownKnob Tryz.prog.godebug = none := by kernel_rfl
theorem laidOut : laidOutB Tryz.prog = true := by kernel_rfl
/-- There is an input that fits, at a world whose shape is shown. -/
theorem witness_row_shaped {H : Type} {enc : TypeId × Value → H} {C : Checked} {os : Os} {f : FuncId} {fn : Func} {s : OpenSpec} {conds : List PathCond} {apart : Bool} {laid : List (String × DataW Unit)} (modest : Bool) (w0 : World) (args : Array Value) (hos : w0.os = os)
    (hsh : (w0.forCall (fun _ _ => 0) ⟨#[], args, []⟩).Shaped C.prog)
    (hok : Input.okWideB C.prog (w0.forCall (fun _ _ => 0) ⟨#[], args, []⟩) f ⟨#[], args, []⟩ = true)
    (hrow : s.preRow enc C.prog fn conds apart laid (w0.forCall (fun _ _ => 0) ⟨#[], args, []⟩).memory args) :
    ∃ (w : World) (tape : Tape) (i : Input), w.os = os ∧ (w.forCall tape i).Shaped C.prog ∧ i.vars = [] ∧ Input.okWide C.prog (w.forCall tape i) .any w.heap.size f i ∧
      s.preRow enc C.prog fn conds apart laid (w.forCall tape i).memory i.args ∧ ({ modest := modest } : Assume).holds C.prog (lone (Frame.enter C.prog f i.args .normal) [] (w.forCall tape i)) :=
  ⟨w0, fun _ _ => 0, ⟨#[], args, []⟩, hos, hsh, (Input.okWide_of_okWideB (base := 0) hok).1, (Input.okWide_of_okWideB hok).2, hrow, by
    simp only [Assume.holds]
    exact ⟨by simp, by simp, fun _ => Modest.zero, by simp, by simp⟩⟩
/-- A world in which the listed variables hold what the program's text lays. -/
noncomputable def laidWorld (os : Os) : World := World.laidAll Tryz.prog os Rows.syntaxLevelsRow.laid
theorem laid_os (os : Os) : (laidWorld os).os = os := World.laidAll_os _ _ _
theorem laid_met (os : Os) (args : Array Value) : laidMet Tryz.prog Rows.syntaxLevelsRow.laid ((laidWorld os).forCall (fun _ _ => 0) ⟨#[], args, []⟩).memory :=
  laidMet_laidAll args (by kernel_rfl) (by kernel_rfl)
end Go.Proofs.YtefenbonjepjgaaGreatDoor
