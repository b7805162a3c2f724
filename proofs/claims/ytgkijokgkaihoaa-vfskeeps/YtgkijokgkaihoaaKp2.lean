/-
  VfsKeeps: reading the file back, a page at a time, and holding it against what was put.
-/
import Derived.Test.YtgkijokgkaihoaaKp
import Derived.Laws.BytesArg
namespace Go.Proofs.Ytgkijokgkaihoaa
open Go.RowKit Go.WideMaps Go.Maps Go.WideShapes

/-- The text that bytes make. -/
def txt (pg : List UInt8) : ByteArray := strOfNums (pg.map fun b : UInt8 => (b.toNat : Int))

theorem conv_any (W : World) (a : Addr) (c : Nat) (pg : List UInt8) (h : BytesAt W a pg) (h1 : 1 ≤ pg.length) : (convert 29 9 (.slice (some a) pg.length c)).run Try.prog W = .ok (.string (txt pg)) W := by
  obtain ⟨b, off, spot⟩ := a
  have hspot : spot = none := by simpa [Addr.add] using World.cell?_spot (h 0 (by omega))
  subst hspot
  exact run_convert_bytes_arg W 29 5 Try.underlying29 Try.underlying5 b off pg.length c (pg.map fun b : UInt8 => (b.toNat : Int)) (by simp) (fun i hi => by rw [← add_plain]; exact h i hi) 9 Try.underlying9

/-- What a Read of the file's page answers: a fault, which there are, or the page. -/
def RdRes (base : Nat) (w : World) (bv : Value) (er : Int) (pg : List UInt8) (zs : List Int) : Prop :=
  (er = 13 ∧ bv = .slice none 0 0 ∧ zs ≠ []) ∨ (er = 0 ∧ ∃ g cap, bv = .slice (some ⟨g, 0, none⟩) pg.length cap ∧ w.ownsRow base 5 1 bv pg.length (pg.map byV))

section
variable {w0 wr w' : World} {B p mb : Nat} {fv : Value} {S : St} {wv : Value} {ws : List (Value × List UInt8)} {zs : List Int} {m : Int}

theorem Kp.page (h : Kp w0 wr B p mb fv S wv ws zs m) {j : Nat} (hj : j < ws.length) : ∃ hj' : j < (S.C ownN).length, ((S.C ownN)[j]).2 = (ws[j]).2 := by
  have hl := congrArg List.length h.eq
  simp at hl
  refine ⟨by omega, ?_⟩
  have h1 : ((S.C ownN).map Prod.snd)[j]? = (ws.map Prod.snd)[j]? := by rw [h.eq]
  simpa [List.getElem?_map, List.getElem?_eq_getElem (show j < (S.C ownN).length by omega), List.getElem?_eq_getElem hj] using h1

theorem Kp.readOwn (h : Kp w0 wr B p mb fv S wv ws zs m) (hB : w0.heap.size ≤ B) {j : Nat} (hj : j < ws.length) (hm : m < 4611686018427387904) :
    Calls Try.prog 14 #[.pointer (some ⟨p, 0, none⟩), .string ⟨#[111, 119, 110]⟩, .int .i64 j] wr fun e w' => ∃ bv er, e = .returned (.tuple #[bv, .int .i64 er]) ∧ RdRes w0.heap.size w' bv er (ws[j]).2 zs ∧ ∃ S', Kp w0 w' B p mb fv S' wv ws zs (m + 1) := by
  obtain ⟨hj', hpg⟩ := h.page hj
  have hc := h.calls
  have hs0 := h.below.size
  by_cases hh : hit S.fs (S.calls + 1) = true
  · have hz : zs ≠ [] := fun e => by rw [h.fs0 e] at hh; cases hh
    have ht : thr S ownN = true := by
      unfold thr
      cases hC : S.C ownN
      · rw [hC] at hj'; simp at hj'
      · rfl
    refine (Read_io h.fs ⟨#[111, 119, 110]⟩ (by decide) j ht (by omega) (by show (j : Int) < ((S.C ownN).length : Int); omega) (by omega) hh).mono ?_
    rintro e w' ⟨rfl, hf, hr⟩
    exact ⟨_, _, rfl, .inl ⟨rfl, rfl, hz⟩, _, h.step hB hf hr (RowsIn.of_eq _ rfl) h.eq rfl rfl (by simp only [cntSt]; omega)⟩
  · refine (Read_ok h.fs ⟨#[111, 119, 110]⟩ (by decide) j hj' (by omega) (by simpa using hh)).mono ?_
    rintro e w' ⟨g, cap, rfl, hrow, hf, hr⟩
    have hpg' : ((S.C (⟨#[111, 119, 110]⟩ : ByteArray).data.toList)[j]'hj').2 = (ws[j]).2 := hpg
    rw [hpg'] at hrow ⊢
    exact ⟨_, _, rfl, .inr ⟨rfl, g, cap, rfl, row_mono hrow hs0⟩, _, h.step hB hf hr (RowsIn.of_eq _ rfl) h.eq rfl rfl (by simp only [cntSt]; omega)⟩

/-- Both texts are alike. -/
theorem Kp.wantAt (h : Kp w0 wr B p mb fv S wv ws zs m) {j : Nat} (hj : j < ws.length) : 1 ≤ (ws[j]).2.length ∧ ∃ a c, (ws[j]).1 = .slice (some a) (ws[j]).2.length c ∧ BytesAt wr a (ws[j]).2 := by
  obtain ⟨hj', hpg⟩ := h.page hj
  have h1 := ((h.fs.pok ownN).2 _ (List.getElem_mem hj')).1
  rw [hpg] at h1
  obtain ⟨a, c, e, hb⟩ := h.el _ (List.getElem_mem hj)
  exact ⟨h1, a, c, e, hb.below h.below⟩
end
end Go.Proofs.Ytgkijokgkaihoaa
