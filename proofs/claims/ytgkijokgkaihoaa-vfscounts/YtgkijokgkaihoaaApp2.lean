/-
  Append in one piece: what it answers, and what the file system is then.
-/
import Derived.Test.YtgkijokgkaihoaaOps
import Derived.Test.YtgkijokgkaihoaaDel
namespace Go.Proofs.Ytgkijokgkaihoaa
open Go.RowKit Go.WideMaps Go.Maps

/-- What Append answers. -/
def apErr (S : St) (s : ByteArray) (n : Nat) : Int :=
  if nmB s = true then
    if 1 ≤ n ∧ n ≤ 1024 then
      if hit S.fs (S.calls + 1) = true then 13
      else if grw S s.data.toList = true then (if S.quota < S.size + n then 14 else 0) else 2
    else 12
  else 11

/-- What the file system is behind that answer. -/
def Apd (S : St) (s : List UInt8) (pg : List UInt8) (er : Int) (S' : St) : Prop :=
  ((er = 11 ∨ er = 12) ∧ S' = S) ∨ ((er = 13 ∧ hit S.fs (S.calls + 1) = true ∨ er = 2 ∨ er = 14 ∧ S.quota < S.size + pg.length) ∧ S' = cntSt S) ∨
    (er = 0 ∧ 1 ≤ pg.length ∧ S.size + pg.length ≤ S.quota ∧ ∃ v u, S' = putSt (cntSt S) s v (u, pg))

theorem Apd.calls {S S' : St} {s pg : List UInt8} {er : Int} (h : Apd S s pg er S') : S'.calls ≤ S.calls + 1 := by
  rcases h with ⟨_, rfl⟩ | ⟨_, rfl⟩ | ⟨_, _, _, v, u, rfl⟩
  · omega
  · exact Int.le_refl _
  · exact Int.le_refl _

/-- The rows of pages lie where they lay, or in new blocks. -/
def RowsIn (S S' : St) (w : World) : Prop := ∀ s k, (look S'.D s).ownBlock = some k → (∃ s', (look S.D s').ownBlock = some k) ∨ w.heap.size ≤ k
theorem RowsIn.of_eq {S S' : St} (w : World) (h : S'.D = S.D) : RowsIn S S' w := fun s k hk => .inl ⟨s, by rw [← h]; exact hk⟩

theorem Append_anyR {w : World} {base p mb : Nat} {fv : Value} {S : St} (h : FsAt w base p mb fv S) (s : ByteArray) (hs : s.size ≤ maxLen) (av : Option Addr) (n c : Nat) (pg : List UInt8) (hpl : pg.length = n) (hp : PageIn w av pg)
    (hc : S.calls < 1125899906842624) :
    Calls Try.prog 12 #[.pointer (some ⟨p, 0, none⟩), .string s, .slice av n c] w fun e w' => e = .returned (.int .i64 (apErr S s n)) ∧
      ∃ S', FsAt w' base p mb fv S' ∧ FsFr p mb S.D w w' ∧ Apd S s.data.toList pg (apErr S s n) S' ∧ RowsIn S S' w := by
  unfold apErr
  by_cases hn : nmB s = true
  · simp only [if_pos hn]
    by_cases hl : 1 ≤ n ∧ n ≤ 1024
    · simp only [if_pos hl]
      by_cases hh : hit S.fs (S.calls + 1) = true
      · simp only [if_pos hh]
        refine (Append_io h s av n c hn hl.1 hl.2 (by omega) hh).mono ?_
        rintro e w' ⟨rfl, hf, hr⟩
        exact ⟨rfl, _, hf, hr, .inr (.inl ⟨.inl ⟨rfl, hh⟩, rfl⟩), RowsIn.of_eq _ rfl⟩
      · simp only [if_neg hh]
        have hh' : hit S.fs (S.calls + 1) = false := by simpa using hh
        by_cases hg : grw S s.data.toList = true
        · simp only [if_pos hg]
          by_cases hq : S.quota < S.size + n
          · simp only [if_pos hq]
            refine (Append_quota h s hs av n c hn hl.1 hl.2 hc hh' hg hq).mono ?_
            rintro e w' ⟨rfl, hf, hr⟩
            exact ⟨rfl, _, hf, hr, .inr (.inl ⟨.inr (.inr ⟨rfl, by rw [hpl]; exact hq⟩), rfl⟩), RowsIn.of_eq _ rfl⟩
          · simp only [if_neg hq]
            obtain ⟨a, rfl, hb⟩ : ∃ a, av = some a ∧ BytesAt w a pg := by
              rcases hp with rfl | hp
              · simp at hpl; omega
              · exact hp
            refine (Append_okR h s hs a n c pg hpl hb hn hl.1 hl.2 hc hh' hg (by omega)).mono ?_
            rintro e w' ⟨rfl, ⟨v, u, hf, hnew⟩, hr⟩
            refine ⟨rfl, _, hf, hr, .inr (.inr ⟨rfl, by omega, by omega, v, u, rfl⟩), fun t k hk => ?_⟩
            by_cases ht : t = s.data.toList
            · subst ht
              rw [show (putSt (cntSt S) s.data.toList v (u, pg)).D = S.D.put (.string s.data.toList) (.held v) from rfl, look_put_same h.map.isMap] at hk
              rcases hnew k hk with h' | h'
              · exact .inl ⟨_, h'⟩
              · exact .inr h'
            · rw [show (putSt (cntSt S) s.data.toList v (u, pg)).D = S.D.put (.string s.data.toList) (.held v) from rfl, look_put_other ht] at hk
              exact .inl ⟨t, hk⟩
        · simp only [if_neg hg]
          refine (Append_many h s hs av n c hn hl.1 hl.2 (by omega) hh' (by simpa using hg)).mono ?_
          rintro e w' ⟨rfl, hf, hr⟩
          exact ⟨rfl, _, hf, hr, .inr (.inl ⟨.inr (.inl rfl), rfl⟩), RowsIn.of_eq _ rfl⟩
    · simp only [if_neg hl]
      refine (Append_long h s av n c hn (by omega)).mono ?_
      rintro e w' ⟨rfl, hb⟩
      exact ⟨rfl, S, h.below hb, FsFr.of_below hb, .inl ⟨.inr rfl, rfl⟩, RowsIn.of_eq _ rfl⟩
  · simp only [if_neg hn]
    refine (Append_name h s _ (by simpa using hn)).mono ?_
    rintro e w' ⟨rfl, hb⟩
    exact ⟨rfl, S, h.below hb, FsFr.of_below hb, .inl ⟨.inl rfl, rfl⟩, RowsIn.of_eq _ rfl⟩

theorem Append_any {w : World} {base p mb : Nat} {fv : Value} {S : St} (h : FsAt w base p mb fv S) (s : ByteArray) (hs : s.size ≤ maxLen) (av : Option Addr) (n c : Nat) (pg : List UInt8) (hpl : pg.length = n) (hp : PageIn w av pg)
    (hc : S.calls < 1125899906842624) :
    Calls Try.prog 12 #[.pointer (some ⟨p, 0, none⟩), .string s, .slice av n c] w fun e w' => e = .returned (.int .i64 (apErr S s n)) ∧
      ∃ S', FsAt w' base p mb fv S' ∧ FsFr p mb S.D w w' ∧ Apd S s.data.toList pg (apErr S s n) S' :=
  (Append_anyR h s hs av n c pg hpl hp hc).mono fun _ _ ⟨he, S', hf, hr, ha, _⟩ => ⟨he, S', hf, hr, ha⟩

theorem faults_below {w w' : World} {fa : Option Addr} {zs : List Int} (h : zs = [] ∨ ∃ b off, fa = some ⟨b, off, none⟩ ∧ ∀ i, i < zs.length → w.cell? ⟨b, off + i, none⟩ = some (.int .i64 (zs.getD i 0))) (hb : Below w.heap.size w w') :
    zs = [] ∨ ∃ b off, fa = some ⟨b, off, none⟩ ∧ ∀ i, i < zs.length → w'.cell? ⟨b, off + i, none⟩ = some (.int .i64 (zs.getD i 0)) := by
  rcases h with h | ⟨b, off, e, h⟩
  · exact .inl h
  · exact .inr ⟨b, off, e, fun i hi => (hb.cell (World.block_lt_of_cell? w _ (h i hi))).trans (h i hi)⟩

/-- Delete in one piece. -/
theorem Delete_any {w : World} {base p mb : Nat} {fv : Value} {S : St} (h : FsAt w base p mb fv S) (s : ByteArray) (hs : s.size ≤ maxLen) (hc : S.calls < 1125899906842624) :
    Calls Try.prog 16 #[.pointer (some ⟨p, 0, none⟩), .string s] w fun e w' => e = .returned (.int .i64 (if thr S s.data.toList = true then 0 else 15)) ∧
      FsAt w' base p mb fv (if thr S s.data.toList = true then delSt S s.data.toList else S) ∧ FsFr p mb S.D w w' := by
  by_cases ht : thr S s.data.toList = true
  · simp only [if_pos ht]
    exact Delete_ok h hc s hs ht
  · simp only [if_neg ht]
    refine (Delete_none h s hs (by simpa using ht)).mono ?_
    rintro e w' ⟨rfl, rfl⟩
    exact ⟨rfl, h, FsFr.refl _ _ _ _⟩
end Go.Proofs.Ytgkijokgkaihoaa
