/-
  Reading a page of a file: the contract of Read.
-/
import Derived.Test.YtgkijokgkaihoaaHead
namespace Go.Proofs.Ytgkijokgkaihoaa
open Go.RowKit Go.WideMaps Go.Maps
section
variable {w : World} {base p mb : Nat} {fv : Value} {S : St}

/-- A row that is owned holds its bytes at its address. -/
theorem bytes_row {w : World} {base g cap : Nat} {pg : List UInt8} (h : w.ownsRow base 5 1 (.slice (some ⟨g, 0, none⟩) pg.length cap) pg.length (pg.map byV)) : BytesAt w ⟨g, 0, none⟩ pg := by
  intro i hi
  have hadd : (⟨g, 0, none⟩ : Addr).add i = ⟨g, i, none⟩ := by unfold Addr.add; split <;> simp_all
  rw [hadd, h.cellAt i (by omega)]
  simp [hi, byV]

theorem Read_none (h : FsAt w base p mb fv S) (s : ByteArray) (hs : s.size ≤ maxLen) (i : Int) (ht : thr S s.data.toList = false) :
    Calls Try.prog 14 #[.pointer (some ⟨p, 0, none⟩), .string s, .int .i64 i] w fun e w' => e = .returned (.tuple #[.slice none 0 0, .int .i64 15]) ∧ w' = w := by
  have c0 : w.cell? ⟨p, 0, none⟩ = some (.map (some mb)) := h.cell 0
  have hl := h.lookupOk s hs
  rw [ht] at hl
  clear ht
  go_enter Try.func14, Try.ntmps14
  go_wp2
  go_ret2
  exact ⟨rfl, rfl⟩

theorem Read_page (h : FsAt w base p mb fv S) (s : ByteArray) (hs : s.size ≤ maxLen) (i : Int) (ht : thr S s.data.toList = true) (hi : i < 0 ∨ ((S.C s.data.toList).length : Int) ≤ i) :
    Calls Try.prog 14 #[.pointer (some ⟨p, 0, none⟩), .string s, .int .i64 i] w fun e w' => e = .returned (.tuple #[.slice none 0 0, .int .i64 16]) ∧ w' = w := by
  have c0 : w.cell? ⟨p, 0, none⟩ = some (.map (some mb)) := h.cell 0
  have hl := h.lookupOk s hs
  rw [ht] at hl
  obtain ⟨av, cap, hf⟩ := h.form s.data.toList
  rw [hf] at hl
  clear ht hf
  generalize (S.C s.data.toList).length = n at hl hi
  by_cases h0 : i < 0
  · have b0 : decide (i < 0) = true := by simpa using h0
    go_enter Try.func14, Try.ntmps14
    go_wp2
    go_ret2
    exact ⟨rfl, rfl⟩
  · have b0 : decide (i < 0) = false := by simpa using h0
    have hi' : (n : Int) ≤ i := by omega
    have b1 : decide ((n : Int) ≤ i) = true := by simpa using hi'
    go_enter Try.func14, Try.ntmps14
    go_wp2
    go_ret2
    exact ⟨rfl, rfl⟩

set_option maxRecDepth 100000 in
theorem Read_io (h : FsAt w base p mb fv S) (s : ByteArray) (hs : s.size ≤ maxLen) (i : Int) (ht : thr S s.data.toList = true) (h0 : 0 ≤ i) (h1 : i < ((S.C s.data.toList).length : Int)) (hc : S.calls < 4611686018427387904) (hh : hit S.fs (S.calls + 1) = true) :
    Calls Try.prog 14 #[.pointer (some ⟨p, 0, none⟩), .string s, .int .i64 i] w fun e w' => e = .returned (.tuple #[.slice none 0 0, .int .i64 13]) ∧ FsAt w' base p mb fv (cntSt S) ∧ FsFr p mb S.D w w' := by
  have c0 : w.cell? ⟨p, 0, none⟩ = some (.map (some mb)) := h.cell 0
  have hl := h.lookupOk s hs
  rw [ht] at hl
  obtain ⟨av, cap, hf⟩ := h.form s.data.toList
  rw [hf] at hl
  clear ht hf
  generalize (S.C s.data.toList).length = n at hl h1
  have b0 : decide (i < 0) = false := by simpa using h0
  have b1 : decide ((n : Int) ≤ i) = false := by simpa using h1
  go_enter Try.func14, Try.ntmps14
  go_wp2_with (first
    | (go_at_call 28; refine (countFails_any h hc).mono ?_; rintro e w2 ⟨rfl, hf2, ho2⟩; rw [hh]))
  go_ret2
  exact ⟨rfl, hf2, FsFr.of_only ho2⟩

set_option maxRecDepth 100000 in
theorem Read_ok (h : FsAt w base p mb fv S) (s : ByteArray) (hs : s.size ≤ maxLen) (i : Nat) (h1 : i < (S.C s.data.toList).length) (hc : S.calls < 4611686018427387904) (hh : hit S.fs (S.calls + 1) = false) :
    Calls Try.prog 14 #[.pointer (some ⟨p, 0, none⟩), .string s, .int .i64 i] w fun e w' => ∃ g cap, e = .returned (.tuple #[.slice (some ⟨g, 0, none⟩) ((S.C s.data.toList)[i]).2.length cap, .int .i64 0]) ∧
      w'.ownsRow w.heap.size 5 1 (.slice (some ⟨g, 0, none⟩) ((S.C s.data.toList)[i]).2.length cap) ((S.C s.data.toList)[i]).2.length (((S.C s.data.toList)[i]).2.map byV) ∧ FsAt w' base p mb fv (cntSt S) ∧ FsFr p mb S.D w w' := by
  have c0 : w.cell? ⟨p, 0, none⟩ = some (.map (some mb)) := h.cell 0
  have ht : thr S s.data.toList = true := by
    unfold thr
    cases hC : S.C s.data.toList
    · rw [hC] at h1; simp at h1
    · rfl
  have hl := h.lookupOk s hs
  rw [ht] at hl
  obtain ⟨hr, hpg⟩ := h.pgs s.data.toList
  obtain ⟨g, cap, hf⟩ : ∃ g cap, look S.D s.data.toList = .slice (some ⟨g, 0, none⟩) (S.C s.data.toList).length cap := by
    rcases hr.2 with ⟨_, h0⟩ | ⟨g, cap, cur, hv, _⟩
    · omega
    · exact ⟨g, cap, hv⟩
  rw [hf] at hl hr
  have hgp : g ≠ p := fun e => h.p_ne_row s.data.toList (by rw [hf, e]; rfl)
  have hq := hpg _ (List.getElem_mem h1)
  have hqp : ((S.C s.data.toList)[i]).1.ownBlock ≠ some p := h.p_ne_page (List.getElem_mem h1)
  have hpk := (h.pok s.data.toList).2 _ (List.getElem_mem h1)
  obtain ⟨gp, cp, hv⟩ : ∃ gp cp, ((S.C s.data.toList)[i]).1 = .slice (some ⟨gp, 0, none⟩) ((S.C s.data.toList)[i]).2.length cp := by
    rcases hq.2 with ⟨_, h0⟩ | ⟨g, cap, cur, hv, _⟩
    · omega
    · exact ⟨g, cap, hv⟩
  have hcell : w.cell? ⟨g, i, none⟩ = some (.slice (some ⟨gp, 0, none⟩) ((S.C s.data.toList)[i]).2.length cp) := by
    rw [hr.cellAt i (by omega), ← hv]
    simp [List.getElem?_eq_getElem h1]
  rw [hv] at hq hqp
  have hpages : (i : Int) < ((S.C s.data.toList).length : Int) := by omega
  generalize ((S.C s.data.toList)[i]).2 = pg at hq hqp hpk hcell ⊢
  clear ht hf hv hr hpg
  generalize (S.C s.data.toList).length = n at hl h1 hpages
  have b0 : decide ((i : Int) < 0) = false := by simp
  have b1 : decide ((n : Int) ≤ (i : Int)) = false := by simpa using hpages
  go_enter Try.func14, Try.ntmps14
  go_wp2_with (first
    | (go_at_call 28; refine (countFails_any h hc).mono ?_; rintro e w2 ⟨rfl, hf2, ho2⟩; rw [hh]; have hcell2 : w2.cell? ⟨g, i, none⟩ = some (.slice (some ⟨gp, 0, none⟩) pg.length cp) := (World.cell?_of_block (w := w) (ho2.block g hgp)).trans hcell)
    | (go_at_call 30; refine (clone_any ⟨gp, 0, none⟩ pg.length cp pg _ rfl (by omega) (bytes_row (row_same hq (fun k hk => ho2.block k (fun e => hqp (e ▸ hk)))))).mono ?_; rintro e w3 ⟨g3, c3, rfl, hr3, b3⟩))
  go_ret2
  exact ⟨g3, c3, rfl, by rw [← ho2.size]; exact hr3, hf2.below b3, (FsFr.of_only ho2).trans (FsFr.of_below b3)⟩
end

/-- Read, as far as counting goes. -/
theorem Read_cnt {w : World} {base p mb : Nat} {fv : Value} {S : St} (h : FsAt w base p mb fv S) (s : ByteArray) (hs : s.size ≤ maxLen) (i : Int) (hc : S.calls < 4611686018427387904) :
    Calls Try.prog 14 #[.pointer (some ⟨p, 0, none⟩), .string s, .int .i64 i] w fun e w' => ∃ v er, e = .returned (.tuple #[v, .int .i64 er]) ∧
      FsAt w' base p mb fv (if 0 ≤ i ∧ i < ((S.C s.data.toList).length : Int) then cntSt S else S) ∧ FsFr p mb S.D w w' := by
  by_cases hi : 0 ≤ i ∧ i < ((S.C s.data.toList).length : Int)
  · simp only [if_pos hi]
    obtain ⟨k, rfl⟩ := Int.eq_ofNat_of_zero_le hi.1
    have hk : k < (S.C s.data.toList).length := by omega
    by_cases hh : hit S.fs (S.calls + 1) = true
    · have ht : thr S s.data.toList = true := by
        unfold thr
        cases hC : S.C s.data.toList
        · rw [hC] at hk; simp at hk
        · rfl
      refine (Read_io h s hs k ht hi.1 hi.2 hc hh).mono ?_
      rintro e w' ⟨rfl, hf, hr⟩
      exact ⟨_, _, rfl, hf, hr⟩
    · refine (Read_ok h s hs k hk hc (by simpa using hh)).mono ?_
      rintro e w' ⟨g, cap, rfl, _, hf, hr⟩
      exact ⟨_, _, rfl, hf, hr⟩
  · simp only [if_neg hi]
    by_cases ht : thr S s.data.toList = true
    · refine (Read_page h s hs i ht (by omega)).mono ?_
      rintro e w' ⟨rfl, rfl⟩
      exact ⟨_, _, rfl, h, FsFr.refl _ _ _ _⟩
    · refine (Read_none h s hs i (by simpa using ht)).mono ?_
      rintro e w' ⟨rfl, rfl⟩
      exact ⟨_, _, rfl, h, FsFr.refl _ _ _ _⟩
end Go.Proofs.Ytgkijokgkaihoaa
