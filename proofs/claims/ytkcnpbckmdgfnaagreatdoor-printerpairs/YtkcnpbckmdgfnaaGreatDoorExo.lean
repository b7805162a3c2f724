/-
  The calls that make an expression of others, or of a value; one of some words.
-/
import Derived.Test.YtkcnpbckmdgfnaaGreatDoorExm
namespace Go.Proofs.YtkcnpbckmdgfnaaGreatDoor
open Go.ChangeShapes Go.WideShapes Go.ChangeAt Go.RowKit
set_option linter.unusedSimpArgs false
set_option linter.unusedVariables false

theorem row9_new {w : World} {cs : Array Value} {t o : Nat} {x : Ex} {ks : Value} (h0 : cs[o]? = some (.int .i64 (opE x))) (h1 : cs[o + 1]? = some (ks)) (h2 : cs[o + 2]? = some (.string (txt (nmE x)))) (h3 : cs[o + 3]? = some (.string (txt (prE x)))) (h4 : cs[o + 4]? = some (.int .i64 (kE x))) (h5 : cs[o + 5]? = some (.bool (bE x))) (h6 : cs[o + 6]? = some (.int .i64 (nE x))) (h7 : cs[o + 7]? = some (.string (txt (tE x)))) (h8 : cs[o + 8]? = some (.slice none 0 0)) : Row9 (w.alloc (.cells cs t)) w.heap.size o x ks :=
  ⟨alloc_cell w h0, alloc_cell w h1, alloc_cell w h2, alloc_cell w h3, alloc_cell w h4, alloc_cell w h5, alloc_cell w h6, alloc_cell w h7, alloc_cell w h8⟩
/-- One other expression, in a new block. -/
theorem one_at {W w' : World} {S : Nat → Prop} {x : Ex} {ks : Value} (op : Int) (hx : ExAt W S x ks) (hb : S W.heap.size) (h : Below (W.alloc (.cells #[.int .i64 (opE x), ks, .string (txt (nmE x)), .string (txt (prE x)), .int .i64 (kE x), .bool (bE x), .int .i64 (nE x), .string (txt (tE x)), .slice none 0 0] 39)).heap.size (W.alloc (.cells #[.int .i64 (opE x), ks, .string (txt (nmE x)), .string (txt (prE x)), .int .i64 (kE x), .bool (bE x), .int .i64 (nE x), .string (txt (tE x)), .slice none 0 0] 39)) w') :
    ExAt w' S (.one op x) (.slice (some ⟨W.heap.size, 0, none⟩) 1 1) := by
  have hb1 := below_new W (.cells #[.int .i64 (opE x), ks, .string (txt (nmE x)), .string (txt (prE x)), .int .i64 (kE x), .bool (bE x), .int .i64 (nE x), .string (txt (tE x)), .slice none 0 0] 39)
  have hr : Row9 (W.alloc (.cells #[.int .i64 (opE x), ks, .string (txt (nmE x)), .string (txt (prE x)), .int .i64 (kE x), .bool (bE x), .int .i64 (nE x), .string (txt (tE x)), .slice none 0 0] 39)) W.heap.size 0 x ks := row9_new rfl rfl rfl rfl rfl rfl rfl rfl rfl
  exact ⟨W.heap.size, ks, rfl, hb, hr.keep h, (hx.keep hb1).keep h⟩
/-- Two, in a new block. -/
theorem two_at {W w' : World} {S : Nat → Prop} {x y : Ex} {ks js : Value} (op : Int) (hx : ExAt W S x ks) (hy : ExAt W S y js) (hb : S W.heap.size) (h : Below (W.alloc (.cells #[.int .i64 (opE x), ks, .string (txt (nmE x)), .string (txt (prE x)), .int .i64 (kE x), .bool (bE x), .int .i64 (nE x), .string (txt (tE x)), .slice none 0 0, .int .i64 (opE y), js, .string (txt (nmE y)), .string (txt (prE y)), .int .i64 (kE y), .bool (bE y), .int .i64 (nE y), .string (txt (tE y)), .slice none 0 0] 39)).heap.size (W.alloc (.cells #[.int .i64 (opE x), ks, .string (txt (nmE x)), .string (txt (prE x)), .int .i64 (kE x), .bool (bE x), .int .i64 (nE x), .string (txt (tE x)), .slice none 0 0, .int .i64 (opE y), js, .string (txt (nmE y)), .string (txt (prE y)), .int .i64 (kE y), .bool (bE y), .int .i64 (nE y), .string (txt (tE y)), .slice none 0 0] 39)) w') :
    ExAt w' S (.two op x y) (.slice (some ⟨W.heap.size, 0, none⟩) 2 2) := by
  have hb1 := below_new W (.cells #[.int .i64 (opE x), ks, .string (txt (nmE x)), .string (txt (prE x)), .int .i64 (kE x), .bool (bE x), .int .i64 (nE x), .string (txt (tE x)), .slice none 0 0, .int .i64 (opE y), js, .string (txt (nmE y)), .string (txt (prE y)), .int .i64 (kE y), .bool (bE y), .int .i64 (nE y), .string (txt (tE y)), .slice none 0 0] 39)
  have hr : Row9 (W.alloc (.cells #[.int .i64 (opE x), ks, .string (txt (nmE x)), .string (txt (prE x)), .int .i64 (kE x), .bool (bE x), .int .i64 (nE x), .string (txt (tE x)), .slice none 0 0, .int .i64 (opE y), js, .string (txt (nmE y)), .string (txt (prE y)), .int .i64 (kE y), .bool (bE y), .int .i64 (nE y), .string (txt (tE y)), .slice none 0 0] 39)) W.heap.size 0 x ks := row9_new rfl rfl rfl rfl rfl rfl rfl rfl rfl
  have hr2 : Row9 (W.alloc (.cells #[.int .i64 (opE x), ks, .string (txt (nmE x)), .string (txt (prE x)), .int .i64 (kE x), .bool (bE x), .int .i64 (nE x), .string (txt (tE x)), .slice none 0 0, .int .i64 (opE y), js, .string (txt (nmE y)), .string (txt (prE y)), .int .i64 (kE y), .bool (bE y), .int .i64 (nE y), .string (txt (tE y)), .slice none 0 0] 39)) W.heap.size 9 y js := row9_new rfl rfl rfl rfl rfl rfl rfl rfl rfl
  exact ⟨W.heap.size, ks, js, rfl, hb, hr.keep h, hr2.keep h, (hx.keep hb1).keep h, (hy.keep hb1).keep h⟩
set_option maxRecDepth 100000 in
theorem of_any (op : Int) (p : Option Addr) (n c : Nat) (w : World) :
    Calls Tryz.prog 98 #[.int .i64 op, .slice p n c] w fun e w' => e = .returned (.agg #[.int .i64 op, .slice p n c, .string ⟨#[]⟩, .string ⟨#[]⟩, .int .i64 0, .bool false, .int .i64 0, .string ⟨#[]⟩, .slice none 0 0]) ∧ Below w.heap.size w w' := by
  go_enter Tryz.func98, Tryz.ntmps98
  go_wp2_with fail
  go_returns
  exact ⟨rfl, below_new _ _⟩
set_option maxRecDepth 100000 in
theorem literal_any (k n : Int) (b : Bool) (t : ByteArray) (w : World) :
    Calls Tryz.prog 187 #[.agg #[.int .i64 k, .bool b, .int .i64 n, .string t, .slice none 0 0]] w fun e w' => e = .returned (.agg #[.int .i64 1, .slice none 0 0, .string ⟨#[]⟩, .string ⟨#[]⟩, .int .i64 k, .bool b, .int .i64 n, .string t, .slice none 0 0]) ∧ Below w.heap.size w w' := by
  go_enter Tryz.func187, Tryz.ntmps187
  go_wp2_with fail
  go_returns
  exact ⟨rfl, below_on (below_new _ _) (below_new _ _)⟩
/-- Some words in memory, and what they make. -/
def OpsAt (w : World) (B : Nat) (p : Option Addr) (S : List (List UInt8 × Int)) : Prop := S = [] ∨ ∃ g o, p = some ⟨g, o, none⟩ ∧ B < g ∧ ∀ i, i < S.length →
    w.cell? ⟨g, o + i * 2, none⟩ = some (.string ⟨(S.getD i ([], 0)).1.toArray⟩) ∧ w.cell? ⟨g, o + i * 2 + 1, none⟩ = some (.int .i64 (S.getD i ([], 0)).2)
theorem OpsAt.only {w w' : World} {B : Nat} {p : Option Addr} {S : List (List UInt8 × Int)} (h : OpsAt w B p S) (ho : Only (· = B) w w') : OpsAt w' B p S := by
  rcases h with h | ⟨g, o, e, hg, h⟩
  · exact .inl h
  · refine .inr ⟨g, o, e, hg, fun i hi => ?_⟩
    obtain ⟨c0, c1⟩ := h i hi
    have hl := World.block_lt_of_cell? w _ c0
    have hg' : ¬ g = B := by omega
    exact ⟨(ho.cell hl hg').trans c0, (ho.cell hl hg').trans c1⟩
theorem opOf_no {S : List (List UInt8 × Int)} {L : List Tk} (h : ∀ i, i < S.length → isW (S.getD i ([], 0)).1 L = false) : opOf S L = 0 := by
  unfold opOf
  rw [List.find?_eq_none.2]
  intro s hs
  obtain ⟨i, hi, e⟩ := List.mem_iff_getElem.1 hs
  have := h i hi
  rw [List.getD_eq_getElem?_getD, List.getElem?_eq_getElem hi, Option.getD_some, e] at this
  simp [this]
theorem opOf_yes {L : List Tk} : ∀ {S : List (List UInt8 × Int)} {i : Nat}, i < S.length → (∀ j, j < i → isW (S.getD j ([], 0)).1 L = false) → isW (S.getD i ([], 0)).1 L = true → opOf S L = (S.getD i ([], 0)).2
  | [], i, hi, _, _ => absurd hi (by simp)
  | s :: S, 0, hi, _, h => by
    have h' : isW s.1 L = true := h
    unfold opOf
    rw [List.find?_cons, h']; rfl
  | s :: S, i + 1, hi, hn, h => by
    have h0 : isW s.1 L = false := hn 0 (by omega)
    have := @opOf_yes L S i (by simp at hi; omega) (fun j hj => hn (j + 1) (by omega)) h
    unfold opOf at this ⊢
    rw [List.find?_cons, h0]
    exact this
/-- What is left behind one of some words. -/
def passedO (S : List (List UInt8 × Int)) (L : List Tk) : List Tk := if opOf S L = 0 then L else L.tail
set_option maxRecDepth 100000 in
theorem passOne_any {w : World} {B E d : Nat} {L : List Tk} (h : Rd w B E d L) (S : List (List UInt8 × Int)) (p : Option Addr) (c : Nat) (hS : OpsAt w B p S) (hs : S.length ≤ 100) (h0 : ∀ i, i < S.length → (S.getD i ([], 0)).2 ≠ 0) :
    Calls Tryz.prog 97 #[rp B, .slice p S.length c] w fun e w' => e = .returned (.int .i64 (opOf S L)) ∧ Only (· = B) w w' ∧ Rd w' B E d (passedO S L) := by
  have hlB := h.lt
  replace h : Hid _ := h
  replace hS : Hid _ := hS
  replace h0 : Hid _ := h0
  generalize hX : opOf S L = X
  generalize hY : passedO S L = Y
  replace hX : Hid _ := hX
  replace hY : Hid _ := hY
  go_enter Tryz.func97, Tryz.ntmps97
  go_wp2_with fail
  go_loopw [6, 9] (fun _ v wr => ∃ (i : Nat), i ≤ S.length ∧ v = .int .i64 i ∧ Only (· = B) w wr ∧ Rd wr B E d L ∧ ∀ j, j < i → isW (S.getD j ([], 0)).1 L = false) (fun _ v _ => S.length - (intOf v).toNat)
  case atStart => exact ⟨0, by omega, rfl, Only.refl _ _, h.out, fun j hj => absurd hj (by omega)⟩
  case round =>
    obtain ⟨i, hi, rfl, ho, hR, hno⟩ := hrel
    by_cases hlt : i < S.length
    · obtain ⟨g, o, rfl, hg, hc⟩ := ((OpsAt.only (p := p) (S := S) hS.out ho)).resolve_left (fun e => by rw [e] at hlt; simp at hlt)
      obtain ⟨hc0, hc1⟩ := hc i hlt
      have hgl := World.block_lt_of_cell? wr _ hc0
      have hBl := hR.lt
      have hz := h0.out i hlt
      have hy := @opOf_yes L S i hlt hno
      clear hc
      have hP := fun W (hb : Below wr.heap.size wr W) => pass_any (hR.below hb) (S.getD i ([], 0)).1
      cases hw : isW (S.getD i ([], 0)).1 L
      · have hno2 : ∀ j, j < i + 1 → isW (S.getD j ([], 0)).1 L = false := fun j hj => by
          by_cases e : j = i
          · rw [e]; exact hw
          · exact hno j (by omega)
        rw [hw, passed_no hw] at hP
        clear hy hno hz hw hR
        generalize S.getD i ([], 0) = s at *
        obtain ⟨s, op⟩ := s
        dsimp only at *
        replace hP : Hid _ := hP
        replace ho : Hid _ := ho
        replace hno2 : Hid _ := hno2
        go_wp2_with (go_at_call 58; refine Calls.mono (hP.out _ (below_new _ _)) ?_; rintro e w1 ⟨rfl, ho1, hr1⟩)
        exact ⟨⟨i + 1, by omega, rfl, (only_new ho.out _).trans ho1, hr1, hno2.out⟩, by show S.length - ((i : Int) + 1).toNat < S.length - (i : Int).toNat; omega⟩
      · have hy2 := hy hw
        rw [hw, passed_yes hw] at hP
        have hX2 := hX.out
        have hY2 := hY.out
        unfold passedO at hY2
        rw [hy2] at hX2 hY2
        rw [if_neg hz] at hY2
        clear hy hno hz hw hR hy2 hX hY
        generalize S.getD i ([], 0) = s at *
        obtain ⟨s, op⟩ := s
        dsimp only at *
        subst hX2 hY2
        replace hP : Hid _ := hP
        replace ho : Hid _ := ho
        go_wp2_with (go_at_call 58; refine Calls.mono (hP.out _ (below_new _ _)) ?_; rintro e w1 ⟨rfl, ho1, hr1⟩; have x1 := new_cell (i := 1) (v := .int .i64 op) ho1 hBl rfl)
        go_returns
        exact ⟨rfl, (only_new ho.out _).trans ho1, hr1⟩
    · have hi2 : i = S.length := by omega
      have hf := opOf_no (S := S) (L := L) (fun k hk => hno k (by omega))
      have hX2 := hX.out
      have hY2 := hY.out
      unfold passedO at hY2
      rw [hf] at hX2 hY2
      rw [if_pos rfl] at hY2
      subst hX2 hY2
      clear hno hX hY hf
      replace ho : Hid _ := ho
      replace hR : Hid _ := hR
      go_wp2_with fail
      go_returns
      exact ⟨rfl, ho.out, hR.out⟩
end Go.Proofs.YtkcnpbckmdgfnaaGreatDoor
