/-
  Lists that are cloned: types, properties that are declared, nodes, edges.
-/
import Derived.Test.YtmioohbailhppaaDoorApp
import Derived.Maps.AppendAt
namespace Go.Proofs.YtmioohbailhppaaDoor
open Go.RowKit
set_option linter.unusedSimpArgs false
set_option linter.unusedVariables false

theorem grown_below {B : Nat} {W w w' : World} {row : Option Nat} (h : Below B W w) (hg : w.grownBy w' row) (hk : ∀ k, row = some k → B ≤ k) (hB : B ≤ W.heap.size) : Below B W w' :=
  ⟨hg.os.trans h.os, hg.tape.trans h.tape, hg.output.trans h.output, Nat.le_trans h.size hg.size, fun i hi => (hg.block i (by have := h.size; omega) (fun e => by have := hk i e.symm; omega)).trans (h.block i hi)⟩
def cellsT (y : TD) : List Value := [.string y.n, .slice y.p y.l y.c]
def cellsP (y : PD) : List Value := [.string y.n, .int .i64 y.k]
def cellsV (y : PV) : List Value := [.string y.n, .int .i64 y.v.k, .bool y.v.b, .int .i64 y.v.n, .string y.v.s, .slice y.v.p y.v.l y.v.c]
def rowT (L : List TD) : List Value := L.flatMap cellsT
def rowP (L : List PD) : List Value := L.flatMap cellsP
def rowV (L : List PV) : List Value := L.flatMap cellsV
theorem oneT (y : TD) : ∀ u ∈ cellsT y, u.oneCell' = true := by
  intro u hu
  simp [cellsT] at hu
  rcases hu with rfl | rfl <;> rfl
theorem oneP (y : PD) : ∀ u ∈ cellsP y, u.oneCell' = true := by
  intro u hu
  simp [cellsP] at hu
  rcases hu with rfl | rfl <;> rfl
theorem oneV (y : PV) : ∀ u ∈ cellsV y, u.oneCell' = true := by
  intro u hu
  simp [cellsV] at hu
  rcases hu with rfl | rfl | rfl | rfl | rfl | rfl <;> rfl
theorem TDsAt.cells {w : World} {ad : Addr} {L : List TD} (h : TDsAt w (some ad) L) : ∀ j u, (rowT L)[j]? = some u → w.cell? (ad.add j) = some u := by
  intro j u hu
  rcases h with rfl | ⟨g, off, e, h⟩
  · simp [rowT] at hu
  · cases e
    have hjl : j < L.length * 2 := by
      have := (List.getElem?_eq_some_iff.1 hu).1
      rwa [rowT, flat_len cellsT 2 (fun _ => rfl) L] at this
    have hj : j = j / 2 * 2 + j % 2 := by omega
    have hi : j / 2 < L.length := by omega
    have k := h (j / 2) hi
    rw [hj, rowT, flat_at cellsT 2 (fun _ => rfl) L _ _ hi (Nat.mod_lt _ (by omega))] at hu
    rw [add_plain, show off + j = off + j / 2 * 2 + j % 2 by omega]
    have h5 : j % 2 = 0 ∨ j % 2 = 1 := by omega
    rcases h5 with h5 | h5 <;> rw [h5] at hu ⊢ <;> simp [cellsT] at hu <;> subst hu
    · exact k.c0
    · exact k.c1
theorem PDsAt.cells {w : World} {ad : Addr} {L : List PD} (h : PDsAt w (some ad) L) : ∀ j u, (rowP L)[j]? = some u → w.cell? (ad.add j) = some u := by
  intro j u hu
  rcases h with rfl | ⟨g, off, e, h⟩
  · simp [rowP] at hu
  · cases e
    have hjl : j < L.length * 2 := by
      have := (List.getElem?_eq_some_iff.1 hu).1
      rwa [rowP, flat_len cellsP 2 (fun _ => rfl) L] at this
    have hj : j = j / 2 * 2 + j % 2 := by omega
    have hi : j / 2 < L.length := by omega
    have k := h (j / 2) hi
    rw [hj, rowP, flat_at cellsP 2 (fun _ => rfl) L _ _ hi (Nat.mod_lt _ (by omega))] at hu
    rw [add_plain, show off + j = off + j / 2 * 2 + j % 2 by omega]
    have h5 : j % 2 = 0 ∨ j % 2 = 1 := by omega
    rcases h5 with h5 | h5 <;> rw [h5] at hu ⊢ <;> simp [cellsP] at hu <;> subst hu
    · exact k.c0
    · exact k.c1
theorem NDsAt.cells {w : World} {ad : Addr} {L : List ND} (h : NDsAt w (some ad) L) : ∀ j u, (rowN L)[j]? = some u → w.cell? (ad.add j) = some u := by
  rcases h.news (c := 0) (by simp) with h | ⟨a2, c, e, _, h⟩
  · simp at h
  · cases e; exact h
theorem EDsAt.cells {w : World} {ad : Addr} {L : List ED} (h : EDsAt w (some ad) L) : ∀ j u, (rowE L)[j]? = some u → w.cell? (ad.add j) = some u := by
  rcases h.news (c := 0) (by simp) with h | ⟨a2, c, e, _, h⟩
  · simp at h
  · cases e; exact h
theorem info51 : (Tryd.prog.info? 51).map (fun i => (i.zero, i.size, i.bytes)) = some (some (.agg #[.string ⟨#[]⟩, .slice none 0 0]), 2, 40) := by kernel_rfl
theorem info80 : (Tryd.prog.info? 80).map (fun i => (i.zero, i.size, i.bytes)) = some (some (.agg #[.string ⟨#[]⟩, .int .i64 0]), 2, 24) := by kernel_rfl
theorem info102 : (Tryd.prog.info? 102).map (fun i => (i.zero, i.size, i.bytes)) = some (some (.agg #[.string ⟨#[]⟩, .int .i64 0, .bool false, .int .i64 0, .string ⟨#[]⟩, .slice none 0 0]), 6, 80) := by kernel_rfl

set_option maxRecDepth 100000 in
theorem nil_yesT (c : Nat) (w : World) : (binOp BinOp.eql 24 (.slice none 0 c) (.slice none 0 0)).run Tryd.prog w = .ok (.bool true) w := by
  first | rfl | kernel_rfl
set_option maxRecDepth 100000 in
theorem nil_noT (w : World) (a : Addr) (n c : Nat) : (binOp BinOp.eql 24 (.slice (some a) n c) (.slice none 0 0)).run Tryd.prog w = .ok (.bool false) w := by
  first | rfl | kernel_rfl
set_option maxRecDepth 100000 in
theorem cloneT (a : Option Addr) (n c : Nat) (L : List TD) (w : World) (hn : L.length = n) (hL : TDsAt w a L) (hX : n * 40 ≤ 140737488355328) :
    Calls Tryd.prog 46 #[.slice a n c] w fun e w' => ∃ u, e = .returned u ∧ w'.ownsRow w.heap.size 51 2 u n (rowT L) ∧ Below w.heap.size w w' := by
  cases a with
  | none =>
    have hL0 : L = [] := by
      rcases hL with h | ⟨g, off, e, _⟩
      · exact h
      · cases e
    subst hL0
    simp at hn
    subst hn
    have hy := nil_yesT c w
    go_enter Tryd.func46, Tryd.ntmps46
    go_wp2_with fail
    go_returns
    exact ⟨_, rfl, World.ownsRow_nil _ _ _ _, by go_grown⟩
  | some ad =>
    obtain ⟨i0, hi0, hz0, hz1, hz2⟩ := info_parts info51
    have own0 : (w.alloc (.cells #[] 51)).ownsRow w.heap.size 51 2 (.slice (some ⟨w.heap.size, 0, none⟩) 0 0) 0 [] := own_empty 2 (Nat.le_refl _) (heap_alloc_new _ _)
    have hcl : ∀ j u, (rowT L)[j]? = some u → (w.alloc (.cells #[] 51)).cell? (ad.add j) = some u := fun j u hu => cell_keep _ (hL.cells j u hu)
    have h1 : ∀ u ∈ rowT L, u.oneCell' = true := flat_one cellsT oneT L
    have hlen : (rowT L).length = n * 2 := by rw [rowT, flat_len cellsT 2 (fun _ => rfl) L, hn]
    clear hL
    have hy := nil_noT w ad n c
    generalize rowT L = xs at hcl h1 hlen ⊢
    go_enter Tryd.func46, Tryd.ntmps46
    go_wp2_with (at_builtin; refine wpList_append_own_at _ rfl _ _ 24 rfl w.heap.size 51 i0 _ 2 40 Tryd.underlying24 hi0 hz0 hz1 hz2 rfl (by decide) _ _ _ rfl own0 ad n c xs rfl hlen hcl h1 (by unfold maxLen; omega) (by omega) (by simp) ?_; intro v' w' hown hgrow hnil hat)
    go_returns
    refine ⟨_, rfl, by simpa using hown, grown_below (below_new _ _) hgrow (fun k hk => by cases hk; exact Nat.le_refl _) (Nat.le_refl _)⟩

set_option maxRecDepth 100000 in
theorem nil_yesP (c : Nat) (w : World) : (binOp BinOp.eql 49 (.slice none 0 c) (.slice none 0 0)).run Tryd.prog w = .ok (.bool true) w := by
  first | rfl | kernel_rfl
set_option maxRecDepth 100000 in
theorem nil_noP (w : World) (a : Addr) (n c : Nat) : (binOp BinOp.eql 49 (.slice (some a) n c) (.slice none 0 0)).run Tryd.prog w = .ok (.bool false) w := by
  first | rfl | kernel_rfl
set_option maxRecDepth 100000 in
theorem cloneP (a : Option Addr) (n c : Nat) (L : List PD) (w : World) (hn : L.length = n) (hL : PDsAt w a L) (hX : n * 24 ≤ 140737488355328) :
    Calls Tryd.prog 47 #[.slice a n c] w fun e w' => ∃ u, e = .returned u ∧ w'.ownsRow w.heap.size 80 2 u n (rowP L) ∧ Below w.heap.size w w' := by
  cases a with
  | none =>
    have hL0 : L = [] := by
      rcases hL with h | ⟨g, off, e, _⟩
      · exact h
      · cases e
    subst hL0
    simp at hn
    subst hn
    have hy := nil_yesP c w
    go_enter Tryd.func47, Tryd.ntmps47
    go_wp2_with fail
    go_returns
    exact ⟨_, rfl, World.ownsRow_nil _ _ _ _, by go_grown⟩
  | some ad =>
    obtain ⟨i0, hi0, hz0, hz1, hz2⟩ := info_parts info80
    have own0 : (w.alloc (.cells #[] 80)).ownsRow w.heap.size 80 2 (.slice (some ⟨w.heap.size, 0, none⟩) 0 0) 0 [] := own_empty 2 (Nat.le_refl _) (heap_alloc_new _ _)
    have hcl : ∀ j u, (rowP L)[j]? = some u → (w.alloc (.cells #[] 80)).cell? (ad.add j) = some u := fun j u hu => cell_keep _ (hL.cells j u hu)
    have h1 : ∀ u ∈ rowP L, u.oneCell' = true := flat_one cellsP oneP L
    have hlen : (rowP L).length = n * 2 := by rw [rowP, flat_len cellsP 2 (fun _ => rfl) L, hn]
    clear hL
    have hy := nil_noP w ad n c
    generalize rowP L = xs at hcl h1 hlen ⊢
    go_enter Tryd.func47, Tryd.ntmps47
    go_wp2_with (at_builtin; refine wpList_append_own_at _ rfl _ _ 49 rfl w.heap.size 80 i0 _ 2 24 Tryd.underlying49 hi0 hz0 hz1 hz2 rfl (by decide) _ _ _ rfl own0 ad n c xs rfl hlen hcl h1 (by unfold maxLen; omega) (by omega) (by simp) ?_; intro v' w' hown hgrow hnil hat)
    go_returns
    refine ⟨_, rfl, by simpa using hown, grown_below (below_new _ _) hgrow (fun k hk => by cases hk; exact Nat.le_refl _) (Nat.le_refl _)⟩

set_option maxRecDepth 100000 in
theorem nil_yesN (c : Nat) (w : World) : (binOp BinOp.eql 25 (.slice none 0 c) (.slice none 0 0)).run Tryd.prog w = .ok (.bool true) w := by
  first | rfl | kernel_rfl
set_option maxRecDepth 100000 in
theorem nil_noN (w : World) (a : Addr) (n c : Nat) : (binOp BinOp.eql 25 (.slice (some a) n c) (.slice none 0 0)).run Tryd.prog w = .ok (.bool false) w := by
  first | rfl | kernel_rfl
set_option maxRecDepth 100000 in
theorem cloneN (a : Option Addr) (n c : Nat) (L : List ND) (w : World) (hn : L.length = n) (hL : NDsAt w a L) (hX : n * 48 ≤ 140737488355328) :
    Calls Tryd.prog 48 #[.slice a n c] w fun e w' => ∃ u, e = .returned u ∧ w'.ownsRow w.heap.size 44 3 u n (rowN L) ∧ Below w.heap.size w w' := by
  cases a with
  | none =>
    have hL0 : L = [] := by
      rcases hL with h | ⟨g, off, e, _⟩
      · exact h
      · cases e
    subst hL0
    simp at hn
    subst hn
    have hy := nil_yesN c w
    go_enter Tryd.func48, Tryd.ntmps48
    go_wp2_with fail
    go_returns
    exact ⟨_, rfl, World.ownsRow_nil _ _ _ _, by go_grown⟩
  | some ad =>
    obtain ⟨i0, hi0, hz0, hz1, hz2⟩ := info_parts info44
    have own0 : (w.alloc (.cells #[] 44)).ownsRow w.heap.size 44 3 (.slice (some ⟨w.heap.size, 0, none⟩) 0 0) 0 [] := own_empty 3 (Nat.le_refl _) (heap_alloc_new _ _)
    have hcl : ∀ j u, (rowN L)[j]? = some u → (w.alloc (.cells #[] 44)).cell? (ad.add j) = some u := fun j u hu => cell_keep _ (hL.cells j u hu)
    have h1 : ∀ u ∈ rowN L, u.oneCell' = true := flat_one cellsN oneN L
    have hlen : (rowN L).length = n * 3 := by rw [rowN, flat_len cellsN 3 (fun _ => rfl) L, hn]
    clear hL
    have hy := nil_noN w ad n c
    generalize rowN L = xs at hcl h1 hlen ⊢
    go_enter Tryd.func48, Tryd.ntmps48
    go_wp2_with (at_builtin; refine wpList_append_own_at _ rfl _ _ 25 rfl w.heap.size 44 i0 _ 3 48 Tryd.underlying25 hi0 hz0 hz1 hz2 rfl (by decide) _ _ _ rfl own0 ad n c xs rfl hlen hcl h1 (by unfold maxLen; omega) (by omega) (by simp) ?_; intro v' w' hown hgrow hnil hat)
    go_returns
    refine ⟨_, rfl, by simpa using hown, grown_below (below_new _ _) hgrow (fun k hk => by cases hk; exact Nat.le_refl _) (Nat.le_refl _)⟩

set_option maxRecDepth 100000 in
theorem nil_yesE (c : Nat) (w : World) : (binOp BinOp.eql 26 (.slice none 0 c) (.slice none 0 0)).run Tryd.prog w = .ok (.bool true) w := by
  first | rfl | kernel_rfl
set_option maxRecDepth 100000 in
theorem nil_noE (w : World) (a : Addr) (n c : Nat) : (binOp BinOp.eql 26 (.slice (some a) n c) (.slice none 0 0)).run Tryd.prog w = .ok (.bool false) w := by
  first | rfl | kernel_rfl
set_option maxRecDepth 100000 in
theorem cloneE (a : Option Addr) (n c : Nat) (L : List ED) (w : World) (hn : L.length = n) (hL : EDsAt w a L) (hX : n * 64 ≤ 140737488355328) :
    Calls Tryd.prog 53 #[.slice a n c] w fun e w' => ∃ u, e = .returned u ∧ w'.ownsRow w.heap.size 46 5 u n (rowE L) ∧ Below w.heap.size w w' := by
  cases a with
  | none =>
    have hL0 : L = [] := by
      rcases hL with h | ⟨g, off, e, _⟩
      · exact h
      · cases e
    subst hL0
    simp at hn
    subst hn
    have hy := nil_yesE c w
    go_enter Tryd.func53, Tryd.ntmps53
    go_wp2_with fail
    go_returns
    exact ⟨_, rfl, World.ownsRow_nil _ _ _ _, by go_grown⟩
  | some ad =>
    obtain ⟨i0, hi0, hz0, hz1, hz2⟩ := info_parts info46
    have own0 : (w.alloc (.cells #[] 46)).ownsRow w.heap.size 46 5 (.slice (some ⟨w.heap.size, 0, none⟩) 0 0) 0 [] := own_empty 5 (Nat.le_refl _) (heap_alloc_new _ _)
    have hcl : ∀ j u, (rowE L)[j]? = some u → (w.alloc (.cells #[] 46)).cell? (ad.add j) = some u := fun j u hu => cell_keep _ (hL.cells j u hu)
    have h1 : ∀ u ∈ rowE L, u.oneCell' = true := flat_one cellsE oneE L
    have hlen : (rowE L).length = n * 5 := by rw [rowE, flat_len cellsE 5 (fun _ => rfl) L, hn]
    clear hL
    have hy := nil_noE w ad n c
    generalize rowE L = xs at hcl h1 hlen ⊢
    go_enter Tryd.func53, Tryd.ntmps53
    go_wp2_with (at_builtin; refine wpList_append_own_at _ rfl _ _ 26 rfl w.heap.size 46 i0 _ 5 64 Tryd.underlying26 hi0 hz0 hz1 hz2 rfl (by decide) _ _ _ rfl own0 ad n c xs rfl hlen hcl h1 (by unfold maxLen; omega) (by omega) (by simp) ?_; intro v' w' hown hgrow hnil hat)
    go_returns
    refine ⟨_, rfl, by simpa using hown, grown_below (below_new _ _) hgrow (fun k hk => by cases hk; exact Nat.le_refl _) (Nat.le_refl _)⟩
end Go.Proofs.YtmioohbailhppaaDoor
