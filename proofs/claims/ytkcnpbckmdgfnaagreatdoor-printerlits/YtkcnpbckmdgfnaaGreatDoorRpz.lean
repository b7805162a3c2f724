/-
  The document's writer: a word more, and the end of it.
  The document's writer: its end; one deeper; a name that is read as one.
-/
import Derived.Test.YtkcnpbckmdgfnaaGreatDoorWra
import Derived.Test.YtkcnpbckmdgfnaaGreatDoorRky
import Derived.Lib.ConvBytes
import Derived.Lib.BufferRead
import Derived.Maps.AppendAt
import Derived.Laws.IdiomStrings
import Derived.Test.YtkcnpbckmdgfnaaGreatDoorRfa
import Derived.Test.YtkcnpbckmdgfnaaGreatDoorNmr
namespace Go.Proofs.YtkcnpbckmdgfnaaGreatDoor
open Go.ChangeShapes Go.WideShapes Go.ChangeAt Go.RowKit
set_option linter.unusedSimpArgs false
set_option linter.unusedVariables false

/-- What is written of a text, where words may be longer. -/
structure Wq (T bs : List UInt8) : Prop where
  le : T.length ≤ 4096 → bs = T
  gt : 4096 < T.length → 4096 < bs.length
  top : bs.length ≤ 8388608
theorem Wq.nil : Wq [] [] := ⟨fun _ => rfl, fun h => absurd h (by decide), by decide⟩
theorem Wq.say {T bs s : List UInt8} (h : Wq T bs) (hs : s.length ≤ 4194304) : Wq (T ++ s) (sayW bs s) := by
  obtain ⟨h1, h2, h3⟩ := h
  have hl : (T ++ s).length = T.length + s.length := List.length_append
  have hb : (bs ++ s).length = bs.length + s.length := List.length_append
  by_cases hT : T.length ≤ 4096
  · have e := h1 hT
    subst e
    have e2 : sayW bs s = bs ++ s := if_pos hT
    rw [e2]
    exact ⟨fun _ => rfl, fun h => h, by omega⟩
  · have hg := h2 (by omega)
    have e2 : sayW bs s = bs := if_neg (by omega)
    rw [e2]
    exact ⟨fun h => by omega, fun _ => hg, h3⟩
/-- What the document's writer holds, in block b: of the text T what is written of it, how deep it is, and whether something is not right. -/
def WAt (B b : Nat) (T : List UInt8) (dp : Int) (bad : Bool) (w : World) : Prop :=
  B ≤ b ∧ ∃ v bs, w.heap[b]? = some (.cells #[v, .int .i64 dp, .bool bad] 62 (0, 0)) ∧ Wq T bs ∧ w.ownsRow B 5 1 v bs.length (Lib.byteCells bs)
theorem own_bel {w w' : World} {B : Nat} {v : Value} {n : Nat} {xs : List Value} (h : w.ownsRow B 5 1 v n xs) (hb : Below w.heap.size w w') : w'.ownsRow B 5 1 v n xs := by
  refine ⟨h.1, ?_⟩
  rcases h.2 with e | ⟨g, cap, cur, e, h1, h2, h3⟩
  · exact .inl e
  · exact .inr ⟨g, cap, cur, e, h1, (hb.block g (Array.getElem?_eq_some_iff.1 h2).1).trans h2, h3⟩
theorem own_slice5 {w : World} {B : Nat} {v : Value} {n : Nat} {xs : List Value} (h : w.ownsRow B 5 1 v n xs) : ∃ a c, v = .slice a n c := by
  rcases h.2 with ⟨e, h0⟩ | ⟨g, cap, cur, e, _⟩
  · exact ⟨none, 0, by rw [e, h0]⟩
  · exact ⟨_, _, e⟩
theorem WAt.below {B b : Nat} {T : List UInt8} {dp : Int} {bad : Bool} {w w' : World} (h : WAt B b T dp bad w) (hb : Below w.heap.size w w') : WAt B b T dp bad w' := by
  obtain ⟨hB, v, bs, h1, h2, h3⟩ := h
  exact ⟨hB, v, bs, (hb.block b (Array.getElem?_eq_some_iff.1 h1).1).trans h1, h2, own_bel h3 hb⟩
set_option maxRecDepth 100000 in
set_option maxHeartbeats 2000000 in
theorem rsay_any {B b : Nat} {T : List UInt8} {dp : Int} {bad : Bool} (s : List UInt8) (w : World) (h : WAt B b T dp bad w) (hs : s.length ≤ 4194304) (hB : B ≤ w.heap.size) :
    Calls Tryz.prog 20 #[.pointer (some ⟨b, 0, none⟩), .string (txt s)] w fun e w' => e = .returned (.tuple #[]) ∧ WAt B b (T ++ s) dp bad w' ∧ Kps B b w w' := by
  obtain ⟨hBb, v, bs, hbk, hW, hown⟩ := h
  have hlt : b < w.heap.size := (Array.getElem?_eq_some_iff.1 hbk).1
  have hne := Lib.ownBlock_ne hown hbk (by decide)
  obtain ⟨ao, cp, rfl⟩ := own_slice5 hown
  have c0 : w.cell? ⟨b, 0, none⟩ = some (.slice ao bs.length cp) := box_cell hbk 0
  have hws := hW.say hs
  have htop := hW.top
  by_cases h4 : bs.length ≤ 4096
  · have h4d : decide ((bs.length : Int) ≤ 4096) = true := by simp; omega
    have ea : sayW bs s = bs ++ s := if_pos h4
    rw [ea] at hws
    have hcv := Lib.run_convert_string_bytes (P := Tryz.prog) w 9 54 5 (txt s) Tryz.underlying9 Tryz.underlying54 Tryz.underlying5
    have hb1 := Lib.bytesWorld_below w 5 (txt s)
    have hr1 := bytes_new w (txt s)
    rw [txt_list] at hr1
    rw [txt_size] at hcv
    have hown1 := own_bel hown hb1
    have hbk1 := (hb1.block b hlt).trans hbk
    have hz1 : w.heap.size ≤ (Lib.bytesWorld w 5 (txt s)).heap.size := hb1.size
    have d0 : (Lib.bytesWorld w 5 (txt s)).cell? ⟨b, 0, none⟩ = some (.slice ao bs.length cp) := box_cell hbk1 0
    obtain ⟨i0, hi0, hi1, hi2, hi3⟩ := info_parts infoB
    replace hr1 : Hid _ := hr1
    replace hown1 : Hid ((Lib.bytesWorld w 5 (txt s)).ownsRow B 5 1 (.slice ao bs.length cp) bs.length (Lib.byteCells bs)) := hown1
    replace hi0 : Hid _ := hi0
    replace hi1 : Hid _ := hi1
    replace hi2 : Hid _ := hi2
    replace hi3 : Hid _ := hi3
    generalize grownCap w s.length 0 5 = gc at *
    generalize Lib.bytesWorld w 5 (txt s) = W1 at *
    go_enter Tryz.func20, Tryz.ntmps20
    go_wp2_with (at_builtin; refine wpList_append_own_at _ rfl _ _ 54 rfl B 5 i0 _ 1 1 Tryz.underlying54 hi0.out hi1.out hi2.out hi3.out rfl (by decide) _ bs.length (Lib.byteCells bs) rfl hown1.out ⟨w.heap.size, 0, none⟩ s.length gc (Lib.byteCells s) rfl (by simp [Lib.byteCells]) ?c1 ?c2 ?c3 ?c4 ?c5 ?_)
    case c1 =>
      intro j u hj
      have hj2 : j < s.length := by
        have := (List.getElem?_eq_some_iff.1 hj).1
        simpa [Lib.byteCells] using this
      have h1 := hr1.out.c j hj2
      rw [Addr.add_lit, Nat.zero_add, h1]
      rw [← hj]
      simp [Lib.byteCells, List.getD, hj2]
    case c2 =>
      intro u hu
      obtain ⟨x, _, rfl⟩ := List.mem_map.1 hu
      rfl
    case c3 => unfold maxLen; omega
    case c4 => omega
    case c5 => exact Nat.le_trans hB hz1
    intro v' w2 hown' hgrow _ _
    obtain ⟨ao', cp', rfl⟩ := own_slice5 hown'
    have hb2 : w2.heap[b]? = some (.cells #[.slice ao bs.length cp, .int .i64 dp, .bool bad] 62 (0, 0)) := by
      rw [hgrow.block b (Nat.lt_of_lt_of_le hlt hz1) (fun e => hne e.symm)]
      exact hbk1
    have d1 : w2.cell? ⟨b, 0, none⟩ = some (.slice ao bs.length cp) := box_cell hb2 0
    have f1 : w2.frozen? ⟨b, 0, none⟩ = false := Lib.frozen_of_heap hb2 0
    have hk1 : Kps B b w W1 := Kps.of hb1 hB
    replace hk1 : Hid _ := hk1
    replace hown' : Hid (w2.ownsRow B 5 1 (.slice ao' (bs.length + s.length) cp') (bs.length + s.length) (Lib.byteCells bs ++ Lib.byteCells s)) := hown'
    replace hgrow : Hid _ := hgrow
    replace hb2 : Hid _ := hb2
    go_wp2_with fail
    have hb3 : (w2.setCell ⟨b, 0, none⟩ (.slice ao' (bs.length + s.length) cp')).heap[b]? = some (.cells #[.slice ao' (bs.length + s.length) cp', .int .i64 dp, .bool bad] 62 (0, 0)) := by
      simp [World.setCell, Array.getElem?_modify, hb2.out]
    have hne2 := Lib.ownBlock_ne hown'.out hb2.out (by decide)
    have hown3 : (w2.setCell ⟨b, 0, none⟩ (.slice ao' (bs.length + s.length) cp')).ownsRow B 5 1 (.slice ao' (bs.length + s.length) cp') (bs.length + s.length) (Lib.byteCells bs ++ Lib.byteCells s) :=
      World.ownsRow.kept (hown'.out) (row := some b) ⟨rfl, rfl, rfl, by simp [World.setCell], fun k _ hk => Below.heap_setCell _ _ _ _ (fun e => hk (by simp [e]))⟩ (Or.inr hne2)
    have hk2 : Kps B b w (w2.setCell ⟨b, 0, none⟩ (.slice ao' (bs.length + s.length) cp')) :=
      ⟨(hk1.out.bel.grown hgrow.out (Nat.le_trans hB hz1) (fun k hk => (World.ownsRow.lt hown1.out k hk).1)).setCell (p := ⟨b, 0, none⟩) hBb _, (hk1.out.oth.grown hgrow.out (own_kind hown1.out)).setCell ⟨b, 0, none⟩ rfl _⟩
    refine bodyPost_end (results_none rfl _ _ _) rfl ⟨rfl, ⟨hBb, _, bs ++ s, hb3, hws, ?_⟩, hk2⟩
    rw [List.length_append, Lib.byteCells_append]
    exact hown3
  · have h4d : decide ((bs.length : Int) ≤ 4096) = false := by simp; omega
    have ea : sayW bs s = bs := if_neg h4
    rw [ea] at hws
    replace hown : Hid _ := hown
    replace hbk : Hid _ := hbk
    go_enter Tryz.func20, Tryz.ntmps20
    go_wp2_with fail
    exact bodyPost_end (results_none rfl _ _ _) rfl ⟨rfl, ⟨hBb, _, bs, hbk.out, hws, hown.out⟩, Kps.refl _ _ _⟩
end Go.Proofs.YtkcnpbckmdgfnaaGreatDoor
namespace Go.Proofs.YtkcnpbckmdgfnaaGreatDoor
open Go.ChangeShapes Go.WideShapes Go.ChangeAt Go.RowKit
set_option linter.unusedSimpArgs false
set_option linter.unusedVariables false

/-- A word of a writer is set anew. -/
theorem WAt.put {B b : Nat} {T : List UInt8} {dp dp' : Int} {bad bad' : Bool} {w w' : World} (h : WAt B b T dp bad w) {v : Value} {cs : Array Value}
    (hbk : w.heap[b]? = some (.cells #[v, .int .i64 dp, .bool bad] 62 (0, 0))) (hb' : w'.heap[b]? = some (.cells #[v, .int .i64 dp', .bool bad'] 62 (0, 0)))
    (hz : w'.heap.size = w.heap.size) (ho : ∀ k, k ≠ b → w'.heap[k]? = w.heap[k]?) : WAt B b T dp' bad' w' := by
  obtain ⟨hB, v2, bs, h1, h2, h3⟩ := h
  rw [hbk] at h1
  injection h1 with h1
  injection h1 with h1
  have hv : v = v2 := by
    have := congrArg (fun a => a[0]?) h1
    simpa using this
  subst hv
  have hne := Lib.ownBlock_ne h3 hbk (by decide)
  refine ⟨hB, v, bs, hb', h2, h3.1, ?_⟩
  rcases h3.2 with e | ⟨g, cap, cur, e, hg, hc, h4⟩
  · exact .inl e
  · refine .inr ⟨g, cap, cur, e, hg, ?_, h4⟩
    rw [ho g (fun e2 => hne (by rw [e, e2]; rfl))]
    exact hc
set_option maxRecDepth 100000 in
/-- One deeper. -/
theorem rdown_any {B b : Nat} {T : List UInt8} {dp : Int} {bad : Bool} (w : World) (h : WAt B b T dp bad w) (h0 : 0 ≤ dp) (h1 : dp ≤ 1000000) :
    Calls Tryz.prog 48 #[.pointer (some ⟨b, 0, none⟩)] w fun e w' => e = .returned (.tuple #[]) ∧ WAt B b T (dp + 1) (bad || decide (50 < dp + 1)) w' ∧ Kps B b w w' := by
  have hW : Hid (WAt B b T dp bad w) := h
  obtain ⟨hBb, v, bs, hbk, _, _⟩ := h
  have c1 : w.cell? ⟨b, 1, none⟩ = some (.int .i64 dp) := box_cell hbk 1
  have c2 : w.cell? ⟨b, 2, none⟩ = some (.bool bad) := box_cell hbk 2
  have hf : ∀ j, w.frozen? ⟨b, j, none⟩ = false := fun j => Lib.frozen_of_heap hbk j
  have f1 := hf 1
  have f2 := hf 2
  have hb1 : (w.setCell ⟨b, 1, none⟩ (.int .i64 (dp + 1))).heap[b]? = some (.cells #[v, .int .i64 (dp + 1), .bool bad] 62 (0, 0)) := by
    simp [World.setCell, Array.getElem?_modify, hbk]
  have d1 : (w.setCell ⟨b, 1, none⟩ (.int .i64 (dp + 1))).cell? ⟨b, 1, none⟩ = some (.int .i64 (dp + 1)) := box_cell hb1 1
  have d2 : (w.setCell ⟨b, 1, none⟩ (.int .i64 (dp + 1))).cell? ⟨b, 2, none⟩ = some (.bool bad) := box_cell hb1 2
  have g2 : (w.setCell ⟨b, 1, none⟩ (.int .i64 (dp + 1))).frozen? ⟨b, 2, none⟩ = false := Lib.frozen_of_heap hb1 2
  have hfin : ∀ bad', WAt B b T (dp + 1) bad' ((w.setCell ⟨b, 1, none⟩ (.int .i64 (dp + 1))).setCell ⟨b, 2, none⟩ (.bool bad')) ∧ Kps B b w ((w.setCell ⟨b, 1, none⟩ (.int .i64 (dp + 1))).setCell ⟨b, 2, none⟩ (.bool bad')) := by
    intro bad'
    refine ⟨hW.out.put hbk (v := v) (cs := #[]) ?_ (by simp [World.setCell]) (fun k hk => ?_), ⟨((Below.refl B w).setCell (p := ⟨b, 1, none⟩) hBb _).setCell (p := ⟨b, 2, none⟩) hBb _, ((Lib.OthersKept.refl 5 (some b) w).setCell ⟨b, 1, none⟩ rfl _).setCell ⟨b, 2, none⟩ rfl _⟩⟩
    · generalize w.setCell ⟨b, 1, none⟩ (.int .i64 (dp + 1)) = W1 at hb1
      simp [World.setCell, Array.getElem?_modify, hb1]
    · rw [Below.heap_setCell _ _ _ _ (fun e => hk (by simp [e])), Below.heap_setCell _ _ _ _ (fun e => hk (by simp [e]))]
  replace hfin : Hid _ := hfin
  clear hf hbk hb1
  cases bad
  case true =>
    go_enter Tryz.func48, Tryz.ntmps48
    go_wp2_with fail
    exact bodyPost_end (results_none rfl _ _ _) rfl ⟨rfl, (hfin.out true).1, (hfin.out true).2⟩
  case false =>
    by_cases h5 : 50 < dp + 1
    · have h5d : decide (50 < dp + 1) = true := by simp [h5]
      rw [h5d]
      go_enter Tryz.func48, Tryz.ntmps48
      go_wp2_with fail
      exact bodyPost_end (results_none rfl _ _ _) rfl ⟨rfl, (hfin.out true).1, (hfin.out true).2⟩
    · have h5d : decide (50 < dp + 1) = false := by simp [h5]
      rw [h5d]
      go_enter Tryz.func48, Tryz.ntmps48
      go_wp2_with fail
      exact bodyPost_end (results_none rfl _ _ _) rfl ⟨rfl, (hfin.out false).1, (hfin.out false).2⟩
set_option maxRecDepth 100000 in
/-- The document's name: is it one that is read as one? -/
theorem rname_any (s : List UInt8) (w : World) (hs : s.length ≤ maxLen) (hT : Tabs w) :
    Calls Tryz.prog 50 #[.string (txt s)] w fun e w' => e = .returned (.bool (nmB s)) ∧ Below w.heap.size w w' := by
  have hz := txt_size s
  have hN := fun (_ : Unit) => V4.refName_any (txt s) w (by rw [hz]; exact hs) hT
  unfold nmB
  cases hn : V4.nameB (txt s)
  · rw [hn] at hN
    rw [Bool.false_and]
    replace hN : Hid _ := hN
    go_enter Tryz.func50, Tryz.ntmps50
    go_wp2_with ((have hh := hN.out (); go_at_call 81; (with_reducible refine Calls.mono hh ?_); clear hh; rintro e w1 ⟨rfl, hb1⟩))
    all_goals (go_returns; exact ⟨rfl, by go_grown⟩)
  · rw [hn] at hN
    rw [Bool.true_and]
    have hK := fun (w1 : World) => refKey_any (txt s) (by rw [hz]; exact hs) w1
    rw [txt_list] at hK
    by_cases hk : keyL s = []
    · rw [hk] at hK
      rw [show decide (keyL s = []) = true by simp [hk]]
      rw [txt_nil] at hK
      replace hN : Hid _ := hN
      replace hK : Hid _ := hK
      replace hT : Hid _ := hT
      clear hn hz
      go_enter Tryz.func50, Tryz.ntmps50
      go_wp2_with first
        | (have hh := hN.out (); go_at_call 81; (with_reducible refine Calls.mono hh ?_); clear hh; rintro e w1 ⟨rfl, hb1⟩)
        | (have hh := hK.out w1; go_at_call 82; (with_reducible refine Calls.mono hh ?_); clear hh; rintro e w2 ⟨rfl, hb2⟩)
      go_returns
      exact ⟨rfl, below_on hb1 hb2⟩
    · have hq := txt_eqb _ hk
      rw [show decide (keyL s = []) = false by simp [hk]]
      replace hN : Hid _ := hN
      replace hK : Hid _ := hK
      replace hT : Hid _ := hT
      clear hn hz
      go_enter Tryz.func50, Tryz.ntmps50
      go_wp2_with first
        | (have hh := hN.out (); go_at_call 81; (with_reducible refine Calls.mono hh ?_); clear hh; rintro e w1 ⟨rfl, hb1⟩)
        | (have hh := hK.out w1; go_at_call 82; (with_reducible refine Calls.mono hh ?_); clear hh; rintro e w2 ⟨rfl, hb2⟩)
      go_returns
      exact ⟨rfl, below_on hb1 hb2⟩
end Go.Proofs.YtkcnpbckmdgfnaaGreatDoor
