/-
  A text and its number in a column.
-/
import Derived.Test.YtomhgaihmdjdbaaDoorDc1
namespace Go.Proofs.YtomhgaihmdjdbaaDoor
open Go.RowKit
set_option linter.unusedSimpArgs false
set_option linter.unusedVariables false

theorem Ap.upd2 {f g : Nat → Option Nat} {n : Nat} (h : Ap f) (i i' : Nat) (hlt : ∀ j b, f j = some b → b < n) (hg : ∀ j, j ≠ i → j ≠ i' → g j = f j) (hi : g i = f i ∨ ∃ b, n ≤ b ∧ g i = some b) (hi' : g i' = f i' ∨ ∃ b, n ≤ b ∧ g i' = some b) (hne : ∀ b, g i' = some b → g i ≠ some b) : Ap g := by
  have old : ∀ a c, g a = some c → c < n → f a = some c := fun a c ha hc => by
    by_cases ea : a = i
    · subst ea
      rcases hi with e | ⟨b, h1, h2⟩
      · rw [← e]; exact ha
      · rw [h2] at ha; cases ha; omega
    · by_cases eb : a = i'
      · subst eb
        rcases hi' with e | ⟨b, h1, h2⟩
        · rw [← e]; exact ha
        · rw [h2] at ha; cases ha; omega
      · rw [← hg a ea eb]; exact ha
  have new : ∀ a c, g a = some c → n ≤ c → a = i ∨ a = i' := fun a c ha hc => by
    by_cases ea : a = i
    · exact .inl ea
    · by_cases eb : a = i'
      · exact .inr eb
      · rw [hg a ea eb] at ha; have := hlt _ _ ha; omega
  intro a b c ha hb
  by_cases hc : c < n
  · exact h a b c (old a c ha hc) (old b c hb hc)
  · rcases new a c ha (by omega) with rfl | rfl <;> rcases new b c hb (by omega) with rfl | rfl
    · rfl
    · exact absurd ha (hne c hb)
    · exact absurd hb (hne c ha)
    · rfl
theorem ColAt.dict {w w' : World} {base x : Nat} {C : Col} (h : ColAt w base x C) {tv pv : Value} {X : List ByteArray} (hb : base ≤ w.heap.size) (hv : VB w' x C.k C.nv C.mv tv pv C.hv) (ho : w'.ownsRow base 9 1 tv X.length (X.map .string)) (hm : MapAt w' pv X) (hT : Moved w C.tv tv) (hP : mapBlock pv = mapBlock C.pv ∨ ∃ g, w.heap.size ≤ g ∧ mapBlock pv = some g) (hne : ∀ b, mapBlock pv = some b → tv.ownBlock ≠ some b)
    (hO : Only (fun j => j = x ∨ C.tv.ownBlock = some j ∨ mapBlock C.pv = some j) w w') : ColAt w' base x { C with tv := tv, pv := pv, X := X } := by
  have np : ∀ j b, bl x C j = some b → j ≠ 0 → j ≠ 3 → j ≠ 4 → ¬ (b = x ∨ C.tv.ownBlock = some b ∨ mapBlock C.pv = some b) := by
    rintro j b hj h0 h3 h4 (rfl | e | e)
    · exact h0 (h.ap j 0 _ hj rfl)
    · exact h3 (h.ap j 3 _ hj e)
    · exact h4 (h.ap j 4 _ hj e)
  refine ⟨hv, own_only h.o1 hO (fun b e => np 1 b e (by decide) (by decide) (by decide)), own_only h.o2 hO (fun b e => np 2 b e (by decide) (by decide) (by decide)), ho, hm, own_only h.o5 hO (fun b e => np 5 b e (by decide) (by decide) (by decide)), ?_, ?_⟩
  · exact h.ap.upd2 3 4 (fun j b e => h.lt e) (fun j h3 h4 => by unfold bl; split <;> first | rfl | omega) (by rcases hT with e | ⟨g, h1, h2⟩; exact .inl e; exact .inr ⟨g, h1, h2⟩) hP hne
  · intro i b e
    by_cases h3 : i = 3
    · subst h3; exact (ho.lt b e).1
    · by_cases h4 : i = 4
      · subst h4
        rcases hP with q | ⟨g, h1, h2⟩
        · exact h.lo 4 b (q.symm.trans e)
        · have := h2.symm.trans e
          cases this
          omega
      · refine h.lo i b (e ▸ ?_)
        unfold bl
        split <;> first | rfl | omega
theorem kin_dict {w : World} {x : Nat} {C : Col} {tv pv : Value} {X : List ByteArray} (hT : Moved w C.tv tv) (hP : mapBlock pv = mapBlock C.pv ∨ ∃ g, w.heap.size ≤ g ∧ mapBlock pv = some g) : Kin w x C { C with tv := tv, pv := pv, X := X } := by
  rintro b ⟨j, hj⟩
  by_cases h3 : j = 3
  · subst h3
    rcases hT with e | ⟨g, h1, h2⟩
    · exact .inl ⟨3, e.symm.trans hj⟩
    · have := h2.symm.trans hj
      cases this
      exact .inr h1
  · by_cases h4 : j = 4
    · subst h4
      rcases hP with e | ⟨g, h1, h2⟩
      · exact .inl ⟨4, e.symm.trans hj⟩
      · have := h2.symm.trans hj
        cases this
        exact .inr h1
    · refine .inl ⟨j, hj ▸ ?_⟩
      unfold bl
      split <;> first | rfl | omega
theorem dict_foot {x : Nat} {C : Col} {j : Nat} (h : j = x ∨ C.tv.ownBlock = some j ∨ mapBlock C.pv = some j) : Foot x C j := by
  rcases h with rfl | h | h
  · exact ⟨0, rfl⟩
  · exact ⟨3, h⟩
  · exact ⟨4, h⟩
/-- A text's number: its place, or how many there are. -/
noncomputable def txtNum (X : List ByteArray) (s : ByteArray) : Nat := by
  classical
  exact if h : ∃ i : Nat, X[i]? = some s then Classical.choose h else X.length
/-- The texts behind it. -/
noncomputable def txtOn (X : List ByteArray) (s : ByteArray) : List ByteArray := by
  classical
  exact if s ∈ X then X else X ++ [s]
theorem txt_has {X : List ByteArray} {s : ByteArray} (h : s ∈ X) : X[txtNum X s]? = some s ∧ txtOn X s = X := by
  obtain ⟨i, hi⟩ := List.mem_iff_getElem?.1 h
  have he : ∃ i : Nat, X[i]? = some s := ⟨i, hi⟩
  unfold txtNum txtOn
  rw [dif_pos he, if_pos h]
  exact ⟨Classical.choose_spec he, rfl⟩
theorem txt_new {X : List ByteArray} {s : ByteArray} (h : s ∉ X) : txtNum X s = X.length ∧ txtOn X s = X ++ [s] := by
  have he : ¬ ∃ i : Nat, X[i]? = some s := fun ⟨i, hi⟩ => h (List.mem_of_getElem? hi)
  unfold txtNum txtOn
  rw [dif_neg he, if_neg h]
  exact ⟨rfl, rfl⟩

/-- The dictionary of a column takes in a text. -/
theorem dnum_col (base x : Nat) (D : Col) (s : ByteArray) (hs : s.size ≤ maxLen) (W : World) (hX : (D.X.length + 1) * 16 ≤ 140737488355328) (hb : base ≤ W.heap.size) (hD : ColAt W base x D) :
    Calls Tryd.prog 66 #[.pointer (some ⟨x, 3, none⟩), .string s] W fun e w' => ∃ tv' pv', e = .returned (.int .i64 (txtNum D.X s : Int)) ∧ ColAt w' base x { D with tv := tv', pv := pv', X := txtOn D.X s } ∧ Only (Foot x D) W w' ∧ Kin W x D { D with tv := tv', pv := pv', X := txtOn D.X s } := by
  have ntx : D.tv.ownBlock ≠ some x := fun e => by have := hD.ap 3 0 x e rfl; cases this
  rcases hD.o4 with ⟨ep, eX⟩ | ⟨b, M, ep, hm⟩
  · have hV := hD.vb
    rw [ep] at hV
    have ho := hD.o3
    rw [eX] at ho
    have hn : s ∉ D.X := by rw [eX]; simp
    obtain ⟨t1, t2⟩ := txt_new hn
    rw [t1, t2, eX]
    refine (dnum_first x base D.k D.nv D.mv D.tv D.hv s hs W hV ho hb ntx).mono fun e w' ⟨he, tv', b, hbl, h1, h2, h3, h4, h5, h6⟩ => ?_
    have hP : mapBlock (.map (some b)) = mapBlock D.pv ∨ ∃ g, W.heap.size ≤ g ∧ mapBlock (.map (some b)) = some g := .inr ⟨b, hbl, rfl⟩
    exact ⟨tv', .map (some b), he, hD.dict hb h1 h2 h3 h4 hP (fun b' e => by cases e; exact h5) (h6.mono (fun j _ q => by rcases q with q | q; exact .inl q; exact .inr (.inl q))), h6.mono (fun j _ q => by rcases q with q | q; exact dict_foot (.inl q); exact dict_foot (.inr (.inl q))), kin_dict h4 hP⟩
  · have hV := hD.vb
    rw [ep] at hV
    have hM := hD.o4
    rw [ep] at hM
    have hbb : bl x D 4 = some b := by show mapBlock D.pv = some b; rw [ep]; rfl
    by_cases hin : s ∈ D.X
    · obtain ⟨t1, t2⟩ := txt_has hin
      rw [t2]
      refine (dnum_has x D.k D.nv D.mv D.tv D.hv b D.X s hs (txtNum D.X s) t1 W hV hM).mono fun e w' ⟨he, hw⟩ => ?_
      subst hw
      exact ⟨D.tv, D.pv, he, hD, Only.refl _ _, Kin.refl _ _ _⟩
    · obtain ⟨t1, t2⟩ := txt_new hin
      rw [t1, t2]
      have n2 : D.tv.ownBlock ≠ some b := fun e => by have := hD.ap 3 4 b e hbb; cases this
      have n3 : b ≠ x := fun e => by have := hD.ap 4 0 b hbb (by rw [e]; rfl); cases this
      refine (dnum_new x base D.k D.nv D.mv D.tv D.hv b D.X s hs hin W hV hM hD.o3 hX hb ntx n2 n3).mono fun e w' ⟨he, tv', h1, h2, h3, h4, h6⟩ => ?_
      have hP : mapBlock (.map (some b)) = mapBlock D.pv ∨ ∃ g, W.heap.size ≤ g ∧ mapBlock (.map (some b)) = some g := .inl (by rw [ep])
      have hS : ∀ j, (j = x ∨ D.tv.ownBlock = some j ∨ j = b) → (j = x ∨ D.tv.ownBlock = some j ∨ mapBlock D.pv = some j) := fun j q => by
        rcases q with q | q | q
        · exact .inl q
        · exact .inr (.inl q)
        · exact .inr (.inr (by rw [q]; exact hbb))
      exact ⟨tv', .map (some b), he, hD.dict hb h1 h2 h3 h4 hP (fun b' e => by cases e; exact h4.ne (hD.lt hbb) n2) (h6.mono (fun j _ q => hS j q)), h6.mono (fun j _ q => dict_foot (hS j q)), kin_dict h4 hP⟩
end Go.Proofs.YtomhgaihmdjdbaaDoor
