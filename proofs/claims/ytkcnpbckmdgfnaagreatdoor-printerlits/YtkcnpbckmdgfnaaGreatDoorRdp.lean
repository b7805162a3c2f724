/-
  The reader's small calls: pass, must, the refusal, a name, a number, one of some words.
-/
import Derived.Test.YtkcnpbckmdgfnaaGreatDoorRdr
namespace Go.Proofs.YtkcnpbckmdgfnaaGreatDoor
open Go.ChangeShapes Go.WideShapes Go.ChangeAt Go.RowKit
set_option linter.unusedSimpArgs false
set_option linter.unusedVariables false

theorem isAny_one (s : List UInt8) (L : List Tk) : isAny [s] L = isW s L := by simp [isAny]
theorem isAny_two (s r : List UInt8) (L : List Tk) : isAny [s, r] L = (isW s L || isW r L) := by simp [isAny]
theorem isW_cons {s : List UInt8} {L : List Tk} (h : isW s L = true) : ∃ t M, L = t :: M := by
  cases L with
  | nil => cases h
  | cons t M => exact ⟨t, M, rfl⟩
theorem ss_one (w : World) (s : List UInt8) : SsAt (w.alloc (.cells #[.string ⟨s.toArray⟩] 9)) (some ⟨w.heap.size, 0, none⟩) [s] := by
  refine .inr ⟨w.heap.size, 0, rfl, fun i hi => ?_⟩
  obtain rfl : i = 0 := by simp at hi; omega
  simp only [World.cell?, heap_alloc_new]
  rfl
theorem ss_two (w : World) (s r : List UInt8) : SsAt (w.alloc (.cells #[.string ⟨s.toArray⟩, .string ⟨r.toArray⟩] 9)) (some ⟨w.heap.size, 0, none⟩) [s, r] := by
  refine .inr ⟨w.heap.size, 0, rfl, fun i hi => ?_⟩
  obtain rfl | rfl : i = 0 ∨ i = 1 := by simp at hi; omega
  all_goals
    simp only [World.cell?, heap_alloc_new]
    rfl
/-- Is the next word this one: the call with one literal. -/
theorem isNext1 {w : World} {B E d : Nat} {L : List Tk} (h : Rd w B E d L) (s : List UInt8) (W : World) (g : Nat) (hb : Below w.heap.size w W) (hg : g = W.heap.size) :
    Calls Tryz.prog 61 #[rp B, .slice (some ⟨g, 0, none⟩) 1 1] (W.alloc (.cells #[.string ⟨s.toArray⟩] 9)) fun e w' => e = .returned (.bool (isW s L)) ∧ Below w.heap.size w w' := by
  subst hg
  have hb2 := below_on hb (below_new W (.cells #[.string ⟨s.toArray⟩] 9))
  have := isNext_any (h.below hb2) [s] _ 1 (ss_one W s) (by simp)
  rw [isAny_one] at this
  exact this.mono fun e w' ⟨h1, h2⟩ => ⟨h1, below_on hb2 h2⟩
theorem isNext2 {w : World} {B E d : Nat} {L : List Tk} (h : Rd w B E d L) (s r : List UInt8) (W : World) (g : Nat) (hb : Below w.heap.size w W) (hg : g = W.heap.size) :
    Calls Tryz.prog 61 #[rp B, .slice (some ⟨g, 0, none⟩) 2 2] (W.alloc (.cells #[.string ⟨s.toArray⟩, .string ⟨r.toArray⟩] 9)) fun e w' => e = .returned (.bool (isW s L || isW r L)) ∧ Below w.heap.size w w' := by
  subst hg
  have hb2 := below_on hb (below_new W (.cells #[.string ⟨s.toArray⟩, .string ⟨r.toArray⟩] 9))
  have := isNext_any (h.below hb2) [s, r] _ 2 (ss_two W s r) (by simp)
  rw [isAny_two] at this
  exact this.mono fun e w' ⟨h1, h2⟩ => ⟨h1, below_on hb2 h2⟩
/-- What is left behind a word that may be passed. -/
def passed (s : List UInt8) (L : List Tk) : List Tk := if isW s L then L.tail else L
theorem passed_yes {s : List UInt8} {L : List Tk} (h : isW s L = true) : passed s L = L.tail := by unfold passed; rw [if_pos h]
theorem passed_no {s : List UInt8} {L : List Tk} (h : isW s L = false) : passed s L = L := by unfold passed; rw [h]; rfl
theorem takeW {w : World} {B E d : Nat} {L : List Tk} (h : Rd w B E d L) (hl : L ≠ []) (W : World) (hb : Below w.heap.size w W) :
    Calls Tryz.prog 89 #[rp B] W fun e w' => e = .returned (.tuple #[]) ∧ Only (· = B) w w' ∧ Rd w' B E d L.tail := by
  cases L with
  | nil => exact absurd rfl hl
  | cons t M => exact (take_any (h.below hb)).mono fun e w' ⟨h1, h2, h3⟩ => ⟨h1, (Below.only _ hb).trans h2, h3⟩
theorem isW_ne {s : List UInt8} {L : List Tk} (h : isW s L = true) : L ≠ [] := fun e => by rw [e] at h; cases h
set_option maxRecDepth 100000 in
theorem pass_any {w : World} {B E d : Nat} {L : List Tk} (h : Rd w B E d L) (s : List UInt8) :
    Calls Tryz.prog 58 #[rp B, .string ⟨s.toArray⟩] w fun e w' => e = .returned (.bool (isW s L)) ∧ Only (· = B) w w' ∧ Rd w' B E d (passed s L) := by
  have hn := fun W g hb hg => isNext1 h s W g hb hg
  have ht := fun hl W hb => takeW h hl W hb
  cases hs : isW s L
  · rw [hs] at hn
    rw [passed_no hs]
    have hR := fun (W : World) (hb : Below w.heap.size w W) => h.below hb
    clear h
    replace hR : Hid _ := hR
    replace hn : Hid _ := hn
    clear ht
    replace hs : Hid _ := hs
    go_enter Tryz.func58, Tryz.ntmps58
    go_wp2_with (go_at_call 61; refine Calls.mono (hn.out _ _ (Below.refl _ _) rfl) ?_; rintro e w1 ⟨rfl, hb1⟩)
    go_returns
    exact ⟨rfl, Below.only _ hb1, hR.out _ hb1⟩
  · rw [hs] at hn
    rw [passed_yes hs]
    have ht := ht (isW_ne hs)
    clear h
    replace hn : Hid _ := hn
    replace ht : Hid _ := ht
    replace hs : Hid _ := hs
    go_enter Tryz.func58, Tryz.ntmps58
    go_wp2_with (first
      | (go_at_call 61; refine Calls.mono (hn.out _ _ (Below.refl _ _) rfl) ?_; rintro e w1 ⟨rfl, hb1⟩)
      | (go_at_call 89; refine Calls.mono (ht.out _ hb1) ?_; rintro e w2 ⟨rfl, ho2, hr2⟩))
    go_returns
    exact ⟨rfl, ho2, hr2⟩
/-- What a refusal holds: at which word, and why. -/
def refV (a : Nat) (y : Int) : Value := .agg #[.int .i64 a, .int .i64 y]
theorem bcell {W w1 : World} (hb : Below W.heap.size W w1) : (∀ b o, b < W.heap.size → w1.cell? ⟨b, o, none⟩ = W.cell? ⟨b, o, none⟩) ∧ (∀ b o, b < W.heap.size → w1.frozen? ⟨b, o, none⟩ = W.frozen? ⟨b, o, none⟩) :=
  ⟨fun b o h => hb.cell (p := ⟨b, o, none⟩) h, fun b o h => hb.frozen (p := ⟨b, o, none⟩) h⟩
/-- A block that is new: its cells, as long as it is not B. -/
theorem alloc_cell (w : World) {cs : Array Value} {t i : Nat} {v : Value} (h : cs[i]? = some v) : (w.alloc (.cells cs t)).cell? ⟨w.heap.size, i, none⟩ = some v := by
  simp only [World.cell?, heap_alloc_new]
  exact h
theorem alloc_fr (w : World) (cs : Array Value) (t i : Nat) : (w.alloc (.cells cs t)).frozen? ⟨w.heap.size, i, none⟩ = false := by
  simp only [World.frozen?, heap_alloc_new]
  simp
theorem new_cell {w w1 : World} {B : Nat} {cs : Array Value} {t i : Nat} {v : Value} (ho : Only (· = B) (w.alloc (.cells cs t)) w1) (hB : B < w.heap.size) (h : cs[i]? = some v) : w1.cell? ⟨w.heap.size, i, none⟩ = some v :=
  (ho.cell (by simp) (by omega)).trans (alloc_cell w h)
theorem new_fr {w w1 : World} {B : Nat} {cs : Array Value} {t : Nat} (ho : Only (· = B) (w.alloc (.cells cs t)) w1) (hB : B < w.heap.size) (i : Nat) : w1.frozen? ⟨w.heap.size, i, none⟩ = false :=
  (ho.frozen (by simp) (by omega)).trans (alloc_fr w cs t i)
theorem at_field (k n a : Int) (x : ByteArray) (w : World) : (Instr.field 147 (.agg #[.int .i64 k, .string x, .int .i64 n, .int .i64 a]) 3).run Tryz.prog w = .ok (.int .i64 a) w := by kernel_rfl
theorem kind_field (k n a : Int) (x : ByteArray) (w : World) : (Instr.field 147 (.agg #[.int .i64 k, .string x, .int .i64 n, .int .i64 a]) 0).run Tryz.prog w = .ok (.int .i64 k) w := by kernel_rfl
/-- Two stores into a block's cells, ahead of a return. -/
theorem ret2 {fn : Func} {Q : Ending → World → Prop} {ex : Exit} {act : Act} {w1 : World} {R : Nat} {u0 u1 v0 v1 : Value} (x0 : w1.cell? ⟨R, 0, none⟩ = some u0) (x1 : w1.cell? ⟨R, 1, none⟩ = some u1)
    (h : ∀ W, W.cell? ⟨R, 0, none⟩ = some v0 → W.cell? ⟨R, 1, none⟩ = some v1 → Only (· = R) w1 W → bodyPost Tryz.prog fn Q ex act W) : bodyPost Tryz.prog fn Q ex act ((w1.setCell ⟨R, 0, none⟩ v0).setCell ⟨R, 1, none⟩ v1) :=
  h _ ((set_at _ _ _ (by decide)).trans (set_same x0)) (set_same ((set_at _ _ _ (by decide)).trans x1)) ((only_set _ _ _ _).trans (only_set _ _ _ _))
theorem res91 {fn : Func} {q : Tmp} (h : fn.results = #[.cell q 109]) {tmps : Array Value} {w : World} {R : Nat} {v0 v1 : Value} (hq : tmps.getD q undef = .pointer (some ⟨R, 0, none⟩)) (c0 : w.cell? ⟨R, 0, none⟩ = some v0) (c1 : w.cell? ⟨R, 1, none⟩ = some v1) :
    (results fn tmps).run Tryz.prog w = .ok (.agg #[v0, v1]) w := by
  have hq' : tmps[q]?.getD undef = .pointer (some ⟨R, 0, none⟩) := by simpa using hq
  simp [results, h, hq', go_sem, c0, c1]
/-- What is turned in a new block alone. -/
theorem below_put {a w w' : World} {R : Nat} (h : Below a.heap.size a w) (hR : a.heap.size ≤ R) (ho : Only (· = R) w w') : Below a.heap.size a w' :=
  h.trans (ho.below h.size (fun k e => e ▸ hR))
theorem only_put {B : Nat} {a w w' : World} {R : Nat} (h : Only (· = B) a w) (hR : a.heap.size ≤ R) (ho : Only (· = R) w w') : Only (· = B) a w' :=
  ⟨ho.os.trans h.os, ho.tape.trans h.tape, ho.output.trans h.output, Nat.le_trans h.size ho.size, fun i hi hn => (ho.block i (Nat.lt_of_lt_of_le hi h.size) (by omega)).trans (h.block i hi hn)⟩
set_option maxRecDepth 100000 in
theorem refusal_any {w : World} {B E d : Nat} {L : List Tk} (h : Rd w B E d L) (y : Int) :
    Calls Tryz.prog 86 #[rp B, .int .i64 y] w fun e w' => e = .returned (refV (placeL E L) y) ∧ Below w.heap.size w w' := by
  have hN := next_any (h.below (below_new w (.cells #[.int .i64 0, .int .i64 0] 109)))
  have ha := headL_a E L
  rw [← ha]
  have hlt := h.lt
  clear ha h
  unfold tkV tokV at hN
  generalize headL E L = t at *
  obtain ⟨k, tx, n, a⟩ := t
  dsimp only at hN ⊢
  unfold refV
  have hfd := at_field k n a (txt tx)
  replace hN : Hid _ := hN
  go_enter Tryz.func86, Tryz.ntmps86
  go_wp2_with (go_at_call 91; refine Calls.mono hN.out ?_; rintro e w1 ⟨rfl, hb1⟩; have ho := Below.only (· = B) hb1; have x0 := new_cell (i := 0) (v := .int .i64 0) ho hlt rfl; have x1 := new_cell (i := 1) (v := .int .i64 0) ho hlt rfl; have f0 := new_fr ho hlt 0; have f1 := new_fr ho hlt 1)
  refine ret2 x0 x1 fun W c0 c1 ho2 => ?_
  exact bodyPost_ret (res91 Tryz.results86 rfl c0 c1) rfl ⟨rfl, below_put (below_on (below_new _ _) hb1) (Nat.le_refl _) ho2⟩
/-- The panic by which the reader gives up. -/
abbrev gaveUp (a : Nat) (y : Int) : Ending := .panicked [{ v := .iface 109 (refV a y), recovered := false }]
/-- What a call answers that reads as r: x's value, and the reader behind it; or the panic. -/
def Ans {α : Type} (w : World) (B E d : Nat) (r : Res α) (V : α → Value → World → Prop) (e : Ending) (w' : World) : Prop :=
  Only (· = B) w w' ∧ match r with
    | .ok x L => ∃ v, e = .returned v ∧ V x v w' ∧ Rd w' B E d L
    | .bad a y => e = gaveUp a y
def NoV {α : Type} (_ : α) (v : Value) (_ : World) : Prop := v = .tuple #[]
theorem end_bad {α : Type} {w w' : World} {B E d a : Nat} {y : Int} {V : α → Value → World → Prop} {fn : Func} {act : Act} (hd : act.defers = []) (h : Only (· = B) w w') :
    bodyPost Tryz.prog fn (Ans w B E d (.bad a y) V) (.panic [{ v := .iface 109 (.agg #[.int .i64 a, .int .i64 y]), recovered := false }]) act w' := ⟨hd, h, rfl⟩
set_option maxRecDepth 100000 in
theorem mustEnd_any {w : World} {B E d : Nat} {L : List Tk} (h : Rd w B E d L) :
    Calls Tryz.prog 54 #[rp B] w (Ans w B E d (if L = [] then .ok () [] else .bad (placeL E L) 81) NoV) := by
  have hN := refusal_any h 81
  obtain ⟨p, cap, c0, hc, hws⟩ := h.c0
  have hf := h.few
  unfold refV at hN
  by_cases hL : L = []
  · subst hL
    rw [if_pos rfl]
    replace h : Hid _ := h
    go_enter Tryz.func54, Tryz.ntmps54
    go_wp2_with fail
    exact bodyPost_end (results_none rfl _ _ _) rfl ⟨Only.refl _ _, _, rfl, rfl, h.out⟩
  · rw [if_neg hL]
    have hl := List.length_pos_iff.2 hL
    replace hN : Hid _ := hN
    clear hws h
    have hgt : decide ((L.length : Int) > 0) = true := by simp; omega
    go_enter Tryz.func54, Tryz.ntmps54
    go_wp2_with (go_at_call 86; refine Calls.mono hN.out ?_; rintro e w1 ⟨rfl, hb1⟩)
    exact end_bad rfl (Below.only _ hb1)
theorem musts_no {E : Nat} {s : List UInt8} {S : List (List UInt8)} {L : List Tk} (h : isW s L = false) : mustsL E (s :: S) L = .bad (placeL E L) 81 := by
  unfold mustsL mustL
  rw [h]; rfl
theorem musts_yes {E : Nat} {s : List UInt8} {S : List (List UInt8)} {L : List Tk} (h : isW s L = true) : mustsL E (s :: S) L = mustsL E S L.tail := by
  rw [mustsL]
  unfold mustL
  rw [h]; rfl
set_option maxRecDepth 100000 in
theorem must_any {w : World} {B E d : Nat} {L : List Tk} (h : Rd w B E d L) (S : List (List UInt8)) (p : Option Addr) (c : Nat) (hS : SsAt w p S) (hs : S.length ≤ 100) (hp : ∀ g o, p = some ⟨g, o, none⟩ → g ≠ B) :
    Calls Tryz.prog 55 #[rp B, .slice p S.length c] w (Ans w B E d (mustsL E S L) NoV) := by
  generalize hX : mustsL E S L = X
  replace hX : Hid _ := hX
  replace h : Hid _ := h
  replace hS : Hid _ := hS
  replace hp : Hid _ := hp
  go_enter Tryz.func55, Tryz.ntmps55
  go_wp2_with fail
  go_loopw [5, 8] (fun _ v wr => ∃ (i : Nat) (M : List Tk), i ≤ S.length ∧ v = .int .i64 i ∧ Only (· = B) w wr ∧ Rd wr B E d M ∧ mustsL E (S.drop i) M = X) (fun _ v _ => S.length - (intOf v).toNat)
  case atStart => exact ⟨0, L, by omega, rfl, Only.refl _ _, h.out, hX.out⟩
  case round =>
    obtain ⟨i, M, hi, rfl, ho, hR, hM⟩ := hrel
    by_cases hlt : i < S.length
    · obtain ⟨g, o, rfl, hc⟩ := (hS.out).resolve_left (fun e => by rw [e] at hlt; simp at hlt)
      have hc := hc i hlt
      have hg := hp.out g o rfl
      have hc := (ho.cell (World.block_lt_of_cell? w _ hc) hg).trans hc
      have hd : S.drop i = S.getD i [] :: S.drop (i + 1) := by
        rw [List.getD_eq_getElem?_getD, List.getElem?_eq_getElem hlt, Option.getD_some, List.drop_eq_getElem_cons hlt]
      rw [hd] at hM
      clear hd
      generalize S.getD i [] = s at *
      have hP := pass_any hR s
      have hq := fun w1 r1 => refusal_any (w := w1) (B := B) (E := E) (d := d) (L := M) r1 81
      unfold refV at hq
      unfold txt at hc
      cases hw : isW s M
      · rw [musts_no hw] at hM
        rw [hw, passed_no hw] at hP
        subst hM
        clear hR
        replace hP : Hid _ := hP
        replace hq : Hid _ := hq
        replace ho : Hid _ := ho
        replace hw : Hid _ := hw
        go_wp2_with (first
          | (go_at_call 58; refine Calls.mono hP.out ?_; rintro e w1 ⟨rfl, ho1, hr1⟩)
          | (go_at_call 86; refine Calls.mono (hq.out _ hr1) ?_; rintro e w2 ⟨rfl, hb2⟩))
        exact end_bad rfl ((ho.out.trans ho1).then hb2)
      · rw [musts_yes hw] at hM
        rw [hw, passed_yes hw] at hP
        clear hR hq
        replace hP : Hid _ := hP
        replace ho : Hid _ := ho
        replace hw : Hid _ := hw
        replace hM : Hid _ := hM
        go_wp2_with (go_at_call 58; refine Calls.mono hP.out ?_; rintro e w1 ⟨rfl, ho1, hr1⟩)
        exact ⟨⟨i + 1, M.tail, by omega, rfl, ho.out.trans ho1, hr1, hM.out⟩, by show S.length - ((i : Int) + 1).toNat < S.length - (i : Int).toNat; omega⟩
    · have hi2 : i = S.length := by omega
      have e : mustsL E (S.drop i) M = .ok () M := by rw [hi2, List.drop_length]; rfl
      rw [e] at hM
      subst hM
      clear e
      replace ho : Hid _ := ho
      replace hR : Hid _ := hR
      go_wp2_with fail
      exact bodyPost_end (results_none rfl _ _ _) rfl ⟨ho.out, _, rfl, rfl, hR.out⟩
end Go.Proofs.YtkcnpbckmdgfnaaGreatDoor
