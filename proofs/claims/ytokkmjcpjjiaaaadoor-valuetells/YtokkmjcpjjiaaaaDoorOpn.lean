/-
  What is common to the statements' last steps: a value that came in, opened; the table that a number's text is reckoned by.
-/
import Derived.Test.YtokkmjcpjjiaaaaDoorCards
import Derived.Test.YtokkmjcpjjiaaaaDoorTie
import Derived.Test.YtokkmjcpjjiaaaaDoorPth
import Derived.WalkKit
import Derived.ProofKit
import Derived.OpenShut
import Derived.ShutString
import Derived.ChangeOld
import Derived.Below
import Derived.SizedLaws
import Derived.Deep.DeepHandedRow
import Derived.Lib.LaidTab
import Derived.Lib.SmallJoins
import Derived.LaidSub
namespace Go.Proofs.YtokkmjcpjjiaaaaDoor
open Go.ChangeShapes Go.WideShapes Go.ChangeAt Go.RowKit
set_option linter.unusedSimpArgs false
set_option linter.unusedVariables false

theorem own : ownKnob Tryd.prog.godebug = none := by kernel_rfl
theorem laidOut : laidOutB Tryd.prog = true := by kernel_rfl
theorem cells25 : Tryd.prog.cellsOf 25 = 5 := by kernel_rfl
theorem cells2 : Tryd.prog.cellsOf 2 = 1 := by kernel_rfl
theorem gTab : Tryd.prog.globalNamed "internal/strconv.uint64pow10" = some 3 := by kernel_rfl
theorem gTabType : (Tryd.prog.globals[3]?).map (·.type) = some 100 := by kernel_rfl
theorem cells100 : Tryd.prog.cellsOf 100 = 20 := by kernel_rfl
theorem cells32 : Tryd.prog.cellsOf 32 = 1 := by kernel_rfl

/-- The powers of ten. -/
def tens : List Int := [1, 10, 100, 1000, 10000, 100000, 1000000, 10000000, 100000000, 1000000000, 10000000000, 100000000000, 1000000000000, 10000000000000, 100000000000000, 1000000000000000, 10000000000000000, 100000000000000000, 1000000000000000000, 10000000000000000000]

theorem table {W : World} (h : laidMetH Tryd.prog Rows.valueTruthsRow.laid W) : Lib.TabIs Tryd.prog W "internal/strconv.uint64pow10" .u64 tens := by
  have h' := h.filter (fun x => x.1 == "internal/strconv.uint64pow10")
  have e : Rows.valueTruthsRow.laid.filter (fun x => x.1 == "internal/strconv.uint64pow10") = [("internal/strconv.uint64pow10", Lib.tabData .u64 tens)] := by kernel_rfl
  rw [e] at h'
  exact Lib.tabIs_of_head (rest := []) gTab gTabType Tryd.underlying100 Tryd.underlying32 cells32 cells100 h'
theorem ten0 {W : World} (h : laidMetH Tryd.prog Rows.valueTruthsRow.laid W) : W.cell? ⟨3, 0, none⟩ = some (.int .u64 1) := (table h).cell gTab 0 (by decide)

theorem array5 {α : Type} {cs : Array α} (h : cs.size = 5) : ∃ c0 c1 c2 c3 c4, cs = #[c0, c1, c2, c3, c4] := by
  obtain ⟨l⟩ := cs
  match l, h with
  | [c0, c1, c2, c3, c4], _ => exact ⟨c0, c1, c2, c3, c4, rfl⟩

section
variable {H : Type} {enc : TypeId × Value → H} {W : World} {held : Bool}

theorem open_path {fuel : Nat} {cs : List Value} {x : DataW H × List MemPlace} (h : DataW.trod enc Tryd.prog W 0 (fun _ => true) held fuel 23 cs = some x) :
    ∃ a l c zs, cs = [.slice a l c] ∧ zs.length = l ∧ PathAt W a zs ∧ (∀ z ∈ zs, -9223372036854775808 ≤ z ∧ z ≤ 9223372036854775807) ∧ l ≤ maxLen := by
  rcases open_ints Tryd.underlying23 Tryd.underlying2 cells2 h with ⟨hcs, _⟩ | ⟨a, l, c, zs, hcs, _, hl, hm, hz, _, hcell, hwz⟩
  · exact ⟨none, 0, 0, [], hcs, rfl, .inl rfl, by simp, Nat.zero_le _⟩
  · simp only [if_true] at hz
    have hlen : (zs.take l).length = l := by simp; omega
    refine ⟨some a, l, c, zs.take l, hcs, hlen, ?_, fun z hz => bounds_i64 (hwz z (List.mem_of_mem_take hz)), Nat.le_trans hl hm⟩
    by_cases hl0 : l = 0
    · left; simp [hl0]
    · obtain ⟨b, off, ha, hc⟩ := ints_at hcell (by omega)
      refine .inr ⟨b, off, by rw [ha], fun i hi => ?_⟩
      rw [hlen] at hi
      rw [hc i (by omega)]
      simp [List.getD, List.getElem?_take_of_lt hi]

theorem trod_struct5 {t : TypeId} {f0 f1 f2 f3 f4 : Field} {fuel : Nat} {cs : List Value} {x : DataW H × List MemPlace} {base : Nat} {spare : Nat → Bool} (ht : Tryd.prog.underlying t = some (.struct #[f0, f1, f2, f3, f4])) (h : DataW.trod enc Tryd.prog W base spare held fuel t cs = some x) :
    ∃ y0 y1 y2 y3 y4 n, cs.length = Tryd.prog.cellsOf t ∧ DataW.trod enc Tryd.prog W base spare held n f0.type ((cs.drop f0.offset).take (Tryd.prog.cellsOf f0.type)) = some y0 ∧
      DataW.trod enc Tryd.prog W base spare held n f1.type ((cs.drop f1.offset).take (Tryd.prog.cellsOf f1.type)) = some y1 ∧ DataW.trod enc Tryd.prog W base spare held n f2.type ((cs.drop f2.offset).take (Tryd.prog.cellsOf f2.type)) = some y2 ∧
      DataW.trod enc Tryd.prog W base spare held n f3.type ((cs.drop f3.offset).take (Tryd.prog.cellsOf f3.type)) = some y3 ∧ DataW.trod enc Tryd.prog W base spare held n f4.type ((cs.drop f4.offset).take (Tryd.prog.cellsOf f4.type)) = some y4 := by
  obtain ⟨xs, n, _, rfl, hl, hlen, hf⟩ := DataW.trod_struct ht h
  match xs, hlen with
  | [y0, y1, y2, y3, y4], _ => exact ⟨y0, y1, y2, y3, y4, n, hl, by simpa using hf 0 f0 rfl, by simpa using hf 1 f1 rfl, by simpa using hf 2 f2 rfl, by simpa using hf 3 f3 rfl, by simpa using hf 4 f4 rfl⟩

theorem cells22 : Tryd.prog.cellsOf 22 = 1 := by kernel_rfl
theorem cells4 : Tryd.prog.cellsOf 4 = 1 := by kernel_rfl
theorem cells9 : Tryd.prog.cellsOf 9 = 1 := by kernel_rfl
theorem cells23 : Tryd.prog.cellsOf 23 = 1 := by kernel_rfl

set_option maxRecDepth 100000 in
/-- A value that came in, opened: its five fields, and its path's numbers. -/
theorem open_value {r : Reach} {b0 : Nat} {v : Value} {d : DataW H} {p : List MemPlace} (hv : Value.okWide Tryd.prog W r b0 25 v) (h : DataW.Trod enc Tryd.prog W 0 (fun _ => true) held 25 v d p) :
    ∃ k b n s a l c zs, v = vv k b n s a l c ∧ (-9223372036854775808 ≤ k ∧ k ≤ 9223372036854775807) ∧ (-9223372036854775808 ≤ n ∧ n ≤ 9223372036854775807) ∧ s.size ≤ maxLen ∧ zs.length = l ∧ PathAt W a zs ∧ (∀ z ∈ zs, -9223372036854775808 ≤ z ∧ z ≤ 9223372036854775807) ∧ l ≤ maxLen := by
  obtain ⟨cs, rfl, hsz⟩ := okWide_struct Tryd.underlying25 hv
  obtain ⟨v0, v1, v2, v3, v4, rfl⟩ := array5 (hsz.trans cells25)
  obtain ⟨fuel, hf⟩ := h
  obtain ⟨y0, y1, y2, y3, y4, m, _, t0, t1, t2, t3, t4⟩ := trod_struct5 Tryd.underlying25 hf
  simp only [Value.cells, cells22, cells4, cells2, cells9, cells23, List.drop_zero, List.drop_succ_cons, List.take_succ_cons, List.take_zero] at t0 t1 t2 t3 t4
  obtain ⟨z0, e0, _, w0⟩ := DataW.trod_int Tryd.underlying22 t0
  obtain ⟨z1, e1, _⟩ := DataW.trod_bool Tryd.underlying4 t1
  obtain ⟨z2, e2, _, w2⟩ := DataW.trod_int Tryd.underlying2 t2
  obtain ⟨s3, e3, _, w3⟩ := DataW.trod_string Tryd.underlying9 t3
  obtain ⟨a, l, c, zs, e4, hl, hp, hz⟩ := open_path t4
  simp only [List.cons.injEq, and_true] at e0 e1 e2 e3 e4
  subst e0 e1 e2 e3 e4
  exact ⟨z0, z1, z2, s3, a, l, c, zs, rfl, bounds_i64 w0, bounds_i64 w2, w3, hl, hp, hz⟩
end
end Go.Proofs.YtokkmjcpjjiaaaaDoor
