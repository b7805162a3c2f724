/-
  Whether a text is a name: Name of the document.
-/
import Derived.Test.YtkcnpbckmdgfnaaGreatDoorNme
import Derived.Test.YtkcnpbckmdgfnaaGreatDoorTba
import Derived.Laws.RangeAny
import Derived.LoopTactic
import Derived.Laws.IdiomStrings
import Derived.Lib.ValidLaws
import Derived.Lib.TrimUEq
namespace Go.Proofs.YtkcnpbckmdgfnaaGreatDoor.V4
open Go.ChangeShapes Go.WideShapes Go.ChangeAt Go.RowKit
set_option linter.unusedSimpArgs false
set_option linter.unusedVariables false

/-! Nr -/

/-- A text's runes, from a place on. -/
def runesL (s : ByteArray) : Nat → Nat → List Int
  | 0, _ => []
  | b + 1, pos => if pos < s.size then (Utf8.decode s pos).1 :: runesL s b (pos + (Utf8.decode s pos).2) else []
/-- Are they a name's? -/
def okL : Bool → List Int → Bool
  | _, [] => true
  | f, c :: r => runeB f c && okL false r
theorem okL_runes (s : ByteArray) : ∀ b pos, okL (decide (pos = 0)) (runesL s b pos) = nameGo s b pos
  | 0, _ => rfl
  | b + 1, pos => by
    unfold runesL nameGo
    by_cases hp : pos < s.size
    · have hw := wid s pos hp
      rw [if_pos hp, if_pos hp, okL, ← okL_runes s b, show decide (pos + (Utf8.decode s pos).2 = 0) = false by simp; omega]
    · rw [if_neg hp, if_neg hp]; rfl
theorem runesFrom_eq (s : ByteArray) : ∀ b pos acc, Conv.runesFrom s b pos acc = acc ++ ((runesL s b pos).map (Value.int .i32)).toArray
  | 0, _, acc => by simp [Conv.runesFrom, runesL]
  | b + 1, pos, acc => by
    unfold Conv.runesFrom runesL
    by_cases hp : pos < s.size
    · simp only [hp, if_true, runesFrom_eq s b]
      simp
    · simp [hp]
theorem name_valid (s : ByteArray) : ∀ b pos, s.size ≤ pos + b → nameGo s b pos = true → Lib.validD (s.data.toList.drop pos) = true
  | 0, pos, hb, _ => by
    rw [List.drop_eq_nil_of_le (by simpa using hb)]; rfl
  | b + 1, pos, hb, h => by
    by_cases hp : pos < s.size
    · have hw := wid s pos hp
      rw [nameGo, if_pos hp, Bool.and_eq_true] at h
      have hne : s.data.toList.drop pos ≠ [] := by simpa using hp
      rw [Lib.validD_step _ hne, Lib.decodeL_drop, if_neg, List.drop_drop]
      · exact name_valid s b _ (by omega) h.2
      · rintro ⟨e1, _⟩
        have := h.1
        rw [e1] at this
        simp [runeB, letB, digB] at this
    · rw [List.drop_eq_nil_of_le (by simpa using hp)]; rfl
theorem okL_at (L : List Int) : ∀ k, k < L.length → (∀ f, okL f (L.drop k) = (runeB f (L.getD k 0) && okL false (L.drop (k + 1)))) := by
  intro k hk f
  rw [List.drop_eq_getElem_cons hk, okL]
  simp [List.getD, List.getElem?_eq_getElem hk]

theorem runes_len (s : ByteArray) : ∀ b pos, (runesL s b pos).length ≤ b
  | 0, _ => Nat.le_refl _
  | b + 1, pos => by
    unfold runesL
    split
    · have := runes_len s b (pos + (Utf8.decode s pos).2)
      simp; omega
    · simp
theorem conv_runes (s : ByteArray) (w : World) (h : s.size ≤ 32) : (convert 9 161 (.string s)).run Tryz.prog w =
    .ok (.slice (some ⟨w.heap.size, 0, none⟩) (runesL s s.size 0).length (grownCap w (runesL s s.size 0).length 0 21))
      (w.drew.alloc (.cells (((runesL s s.size 0).map (Value.int .i32)).toArray ++ Array.replicate (grownCap w (runesL s s.size 0).length 0 21 - (runesL s s.size 0).length) (.int .i32 0)) 21)) := by
  have hl := runes_len s s.size 0
  have := run_runes_of_string (P := Tryz.prog) w 9 161 21 s Tryz.underlying9 Tryz.underlying161 Tryz.underlying21 (by rw [runesFrom_eq]; simp; omega)
  rw [runesFrom_eq] at this
  simpa using this
/-- A row of runes. -/
def RunesAt (w : World) (g : Nat) (L : List Int) : Prop := ∀ i, i < L.length → w.cell? ⟨g, i, none⟩ = some (.int .i32 (L.getD i 0))
theorem runes_new (w : World) (L : List Int) (n : Nat) (t : TypeId) : RunesAt (w.alloc (.cells ((L.map (Value.int .i32)).toArray ++ Array.replicate n (.int .i32 0)) t)) w.heap.size L := by
  intro i hi
  simp only [World.cell?, heap_alloc_new]
  simp [Array.getElem?_append, hi, List.getD]

set_option maxRecDepth 100000 in
theorem refName_any (s : ByteArray) (w : World) (hs : s.size ≤ maxLen) (hT : Tabs w) :
    Calls Tryz.prog 81 #[.string s] w fun e w' => e = .returned (.bool (nameB s)) ∧ Below w.heap.size w w' := by
  have hV := fun (w1 : World) (hb : Below w.heap.size w w1) => valid_any s (by unfold maxLen at hs; omega) w1 (hT.below hb)
  unfold maxLen at hs
  by_cases h1 : 1 ≤ s.size
  case neg =>
    rw [show nameB s = false by simp [nameB, h1]]
    go_enter Tryz.func81, Tryz.ntmps81
    go_wp2_with fail
    all_goals first | (exfalso; omega) | (go_returns; exact ⟨rfl, by go_grown⟩)
  by_cases h2 : s.size ≤ 32
  case neg =>
    rw [show nameB s = false by simp [nameB, h2]]
    go_enter Tryz.func81, Tryz.ntmps81
    go_wp2_with fail
    all_goals first | (exfalso; omega) | (go_returns; exact ⟨rfl, by go_grown⟩)
  have hN : nameB s = nameGo s s.size 0 := by simp [nameB, h1, h2]
  cases hv : Lib.validD s.data.toList
  case false =>
    rw [hv] at hV
    rw [hN, show nameGo s s.size 0 = false by
      cases hg : nameGo s s.size 0 with
      | false => rfl
      | true => rw [← hv]; simpa using (name_valid s s.size 0 (by omega) hg).symm]
    replace hV : Hid _ := hV
    go_enter Tryz.func81, Tryz.ntmps81
    go_wp2_with (go_at_call 105; refine Calls.mono (hV.out _ (by go_grown)) ?_; rintro e wx ⟨rfl, hx⟩)
    all_goals first | (exfalso; omega) | (go_returns; exact ⟨rfl, hx⟩) | (go_returns; exact ⟨rfl, by go_grown⟩)
  rw [hN, ← okL_runes]
  rw [hv] at hV
  replace hV : Hid _ := hV
  go_enter Tryz.func81, Tryz.ntmps81
  have hlen := runes_len s s.size 0
  have hcv : Hid _ := fun w => conv_runes s w h2
  generalize runesL s s.size 0 = L at hcv hlen ⊢
  go_wp2_with (first | (go_at_call 105; refine Calls.mono (hV.out _ (by go_grown)) ?_; rintro e wx ⟨rfl, hx⟩; have hcv1 := hcv.out wx))
  all_goals try (exfalso; omega)
  have hR : RunesAt (wx.alloc (.cells ((L.map (Value.int .i32)).toArray ++ Array.replicate (grownCap wx L.length 0 21 - L.length) (.int .i32 0)) 21)).drew wx.heap.size L := runes_new wx L _ 21
  have hB : Below w.heap.size w (wx.alloc (.cells ((L.map (Value.int .i32)).toArray ++ Array.replicate (grownCap wx L.length 0 21 - L.length) (.int .i32 0)) 21)).drew := (hx.alloc hx.size _).drew
  generalize (wx.alloc (.cells ((L.map (Value.int .i32)).toArray ++ Array.replicate (grownCap wx L.length 0 21 - L.length) (.int .i32 0)) 21)).drew = w2 at hR hB ⊢
  generalize wx.heap.size = g at hR ⊢
  clear hcv1 hcv hV hx
  go_loopw [4] (fun i wr => wr = w2 ∧ ∃ j : Nat, j ≤ L.length ∧ i = .int .i64 j ∧ okL (decide (j = 0)) (L.drop j) = okL true L) (fun i _ => L.length - (intOf i).toNat)
  case atStart => exact ⟨rfl, 0, by omega, rfl, by simp⟩
  case round =>
    obtain ⟨hw, j, j1, rfl, hz⟩ := hrel
    rw [hw]
    clear hw
    by_cases hj : j < L.length
    · have hr := hR j hj
      rw [okL_at L j hj] at hz
      generalize L.getD j 0 = c at *
      cases hx : runeB (decide (j = 0)) c
      all_goals
        rw [hx] at hz
        simp only [Bool.false_and, Bool.true_and] at hz
        unfold runeB at hx
        replace hz : Hid _ := hz
        replace hx : Hid _ := hx
        have hd := digB_t c
        replace hd : Hid _ := hd
        go_wp2_with (first | (go_at_call 109; refine (Letter_any _ _).mono ?_; rintro e w1 ⟨rfl, rfl⟩))
        all_goals
          replace hz := hz.out
          replace hx := hx.out
          replace hd := hd.out
        all_goals first
          | (exfalso; simp_all; done)
          | (exfalso; simp_all; omega)
          | exact ⟨⟨trivial, j + 1, by omega, rfl, by rw [show decide (j + 1 = 0) = false by simp]; exact hz⟩, by show L.length - ((j : Int) + 1).toNat < L.length - (j : Int).toNat; omega⟩
          | (go_returns; exact ⟨by simp [← hz], hB⟩)
    · go_wp2_with fail
      rw [List.drop_eq_nil_of_le (by omega)] at hz
      go_returns
      exact ⟨by simp [← hz, okL], hB⟩

end Go.Proofs.YtkcnpbckmdgfnaaGreatDoor.V4
