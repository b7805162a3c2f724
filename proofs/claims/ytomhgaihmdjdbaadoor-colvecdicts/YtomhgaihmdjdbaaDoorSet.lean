/-
  A bit is set.
-/
import Derived.Test.YtomhgaihmdjdbaaDoorVec
import Derived.Laws.AppendOwn
import Derived.Maps.AppendAt
import Derived.Deep.DeepCutAuto
namespace Go.Proofs.YtomhgaihmdjdbaaDoor
open Go.RowKit
set_option linter.unusedSimpArgs false
set_option linter.unusedVariables false

theorem own_slice {w : World} {base : Nat} {v : Value} {n : Nat} {xs : List Value} {e : TypeId} {size : Nat} (h : w.ownsRow base e size v n xs) : ∃ a c, v = .slice a n c := by
  obtain ⟨h1, ⟨h2, h3⟩ | ⟨g, cap, cur, e1, e2, e3, e4⟩⟩ := h
  · exact ⟨none, 0, by rw [h2, h3]⟩
  · exact ⟨_, _, e1⟩
theorem info73 : (Tryd.prog.info? 73).map (fun i => (i.zero, i.size, i.bytes)) = some (some (.int .u64 0), 1, 8) := by kernel_rfl
/-- Words, as they lie in memory. -/
def w64 (L : List Int) : List Value := L.map (.int .u64)
/-- Where what is owned lies: where it did, or in a new block. -/
def Moved (w : World) (nv nv' : Value) : Prop := nv'.ownBlock = nv.ownBlock ∨ ∃ g, w.heap.size ≤ g ∧ nv'.ownBlock = some g
theorem Moved.refl (w : World) (v : Value) : Moved w v v := .inl rfl
theorem Moved.trans {w w' : World} {a b c : Value} (h : Moved w a b) (k : Moved w' b c) (hs : w.heap.size ≤ w'.heap.size) : Moved w a c := by
  rcases k with k | ⟨g, h1, h2⟩
  · rcases h with h | ⟨g, h1, h2⟩
    · exact .inl (k.trans h)
    · exact .inr ⟨g, h1, k.trans h2⟩
  · exact .inr ⟨g, by omega, h2⟩
theorem Moved.ne {w : World} {a b : Value} (h : Moved w a b) {x : Nat} (hx : x < w.heap.size) (ha : a.ownBlock ≠ some x) : b.ownBlock ≠ some x := by
  rcases h with h | ⟨g, h1, h2⟩
  · rwa [h]
  · rw [h2]; intro e; cases e; omega
theorem own_set {w : World} {base : Nat} {v : Value} {n : Nat} {xs : List Value} {e : TypeId} {size : Nat} (h : w.ownsRow base e size v n xs) {p : Addr} (u : Value) (hne : v.ownBlock ≠ some p.block) : (w.setCell p u).ownsRow base e size v n xs := by
  obtain ⟨h1, h2 | ⟨g, cap, cur, e1, e2, e3, e4⟩⟩ := h
  · exact ⟨h1, .inl h2⟩
  · subst e1
    exact ⟨h1, .inr ⟨g, cap, cur, rfl, e2, (Below.heap_setCell _ _ _ _ (fun e => hne (by simp [Value.ownBlock, e]))).trans e3, e4⟩⟩
theorem own_at {w : World} {base : Nat} {v : Value} {n : Nat} {xs : List Value} {e : TypeId} (h : w.ownsRow base e 1 v n xs) (i : Nat) (hi : i < n) : ∃ g cap, v = .slice (some ⟨g, 0, none⟩) n cap ∧ w.cell? ⟨g, i, none⟩ = xs[i]? ∧ (∀ j, w.frozen? ⟨g, j, none⟩ = false) ∧ g < w.heap.size ∧ base ≤ g := by
  obtain ⟨h1, ⟨h2, h3⟩ | ⟨g, cap, cur, e1, e2, e3, e4, e5, e6, e7⟩⟩ := h
  · omega
  · refine ⟨g, cap, e1, ?_, fun j => by simp [World.frozen?, e3], (Array.getElem?_eq_some_iff.1 e3).1, e2⟩
    rw [← e7]
    simp only [World.cell?, e3]
    simp [List.getElem?_take, hi]
theorem own_put {w : World} {base g cap n : Nat} {xs : List Value} {e : TypeId} (h : w.ownsRow base e 1 (.slice (some ⟨g, 0, none⟩) n cap) n xs) (i : Nat) (hi : i < n) (u : Value) : (w.setCell ⟨g, i, none⟩ u).ownsRow base e 1 (.slice (some ⟨g, 0, none⟩) n cap) n (xs.set i u) := by
  obtain ⟨h1, ⟨h2, h3⟩ | ⟨g', cap', cur, e1, e2, e3, e4, e5, e6, e7⟩⟩ := h
  · cases h2
  · cases e1
    refine ⟨by simpa using h1, .inr ⟨g, cap, _, rfl, e2, heap_setCell_self w g i cur e (0, 0) u e3, e4, e5, by simpa using e6, ?_⟩⟩
    rw [← e7]
    simp [List.take_set]
/-- The words behind a first part of the loop. -/
def padded (L : List Int) (j : Nat) : List Int := L ++ List.replicate j 0
theorem padded_len (L : List Int) (j : Nat) : (padded L j).length = L.length + j := by simp [padded]
theorem padded_next (L : List Int) (j : Nat) : w64 (padded L (j + 1)) = w64 (padded L j) ++ [.int .u64 0] := by simp [w64, padded, List.replicate_succ']

/-- The words behind a bit that is set. -/
def setB (L : List Int) (q : Nat) : List Int := (padded L (q / 64 + 1 - L.length)).set (q / 64) (bits BinOp.or IntKind.u64 ((padded L (q / 64 + 1 - L.length)).getD (q / 64) 0) (IntKind.u64.wrap (2 ^ (q % 64))))
theorem setB_len (L : List Int) (q : Nat) : (setB L q).length = L.length + (q / 64 + 1 - L.length) := by simp [setB, padded_len]

set_option maxRecDepth 100000 in
set_option maxHeartbeats 2000000 in
theorem set_any (x base : Nat) (k : Int) (nv mv tv pv hv : Value) (L : List Int) (q : Nat) (w : World) (hV : VB w x k nv mv tv pv hv) (ho : w.ownsRow base 73 1 nv L.length (w64 L)) (hap : nv.ownBlock ≠ some x) (hb : base ≤ w.heap.size) (hq : q < 10000000000000) (hL : L.length < 10000000000000) :
    Calls Tryd.prog 53 #[.pointer (some ⟨x, 1, none⟩), .int .i64 q] w fun e w' => e = .returned (.tuple #[]) ∧ ∃ nv', VB w' x k nv' mv tv pv hv ∧ w'.ownsRow base 73 1 nv' (setB L q).length (w64 (setB L q)) ∧ Moved w nv nv' ∧ Only (fun j => j = x ∨ nv.ownBlock = some j) w w' := by
  obtain ⟨i0, hi0, hz0, hz1, hz2⟩ := info_parts info73
  have c1 := hV.c1
  have hxlt := hV.lt
  obtain ⟨na, nc, rfl⟩ := own_slice ho
  replace ho : Hid _ := ho
  replace hV : Hid _ := hV
  go_enter Tryd.func53, Tryd.ntmps53
  go_wp2_with fail
  have c1' := c1
  clear c1
  go_loopw [14] (fun i wr => ∃ (j : Nat) (nv' : Value), j ≤ q / 64 + 1 - L.length ∧ i = .int .i64 j ∧ VB wr x k nv' mv tv pv hv ∧ wr.ownsRow base 73 1 nv' (L.length + j) (w64 (padded L j)) ∧ Moved w (.slice na L.length nc) nv' ∧ Only (fun j => j = x ∨ (Value.slice na L.length nc).ownBlock = some j) w wr) (fun i _ => (q / 64 + 1) - (intOf i).toNat)
  case atStart => exact ⟨0, _, by omega, rfl, hV.out, by rw [show padded L 0 = L by simp [padded]]; exact ho.out, Moved.refl _ _, Only.refl _ _⟩
  case round =>
    obtain ⟨j, nv', j1, rfl, hV2, ho2, hM, hO⟩ := hrel
    have hsz := hO.size
    have hne : nv'.ownBlock ≠ some x := hM.ne hxlt hap
    by_cases hj : j < q / 64 + 1 - L.length
    · have e1 : (j : Int) < (q : Int) / 64 + 1 - L.length := by omega
      have c1 := hV2.c1
      have fr := hV2.fr 1
      obtain ⟨ma, mc, rfl⟩ := own_slice ho2
      replace hV2 : Hid _ := hV2
      replace ho2 : Hid _ := ho2
      replace hM : Hid _ := hM
      go_wp2_with (at_builtin; refine wpList_append_own_at _ rfl _ _ 61 rfl base 73 i0 (.int .u64 0) 1 8 Tryd.underlying61 hi0 hz0 hz1 hz2 rfl (by decide) _ _ _ rfl (World.ownsRow.alloc ho2.out _) ⟨wr.heap.size, 0, none⟩ 1 1 [.int .u64 0] rfl rfl (cell_one_new _ _ _) (by simp [Value.oneCell']) (by unfold maxLen; omega) (by omega) (by simp; omega) ?_; intro v4 w4 ho4 hg4 hnil4 hloc4; obtain ⟨ba, bc, rfl⟩ := own_slice ho4; have hV4 := (VB.below hV2.out (below_new wr (.cells #[.int .u64 0] 73))).grown hg4 hne; have c4 := hV4.c1; have fr4 := hV4.fr 1; replace ho4 : Hid _ := ho4; replace hV4 : Hid _ := hV4; replace hloc4 : Hid _ := hloc4; clear c1 fr)
      have hM4 : Moved w (.slice na L.length nc) (.slice ba (L.length + j + 1) bc) := Moved.trans hM.out (w' := wr) (by rcases hloc4.out with e | e; exact .inl e; exact .inr ⟨_, by simp, e⟩) hsz
      refine ⟨⟨j + 1, _, by omega, by first | go_num | (congr 1; omega), VB.set1 hV4.out _, ?_, hM4, ?_⟩, by simp [intOf]; omega⟩
      · rw [padded_next]
        exact own_set ho4.out _ (hM4.ne hxlt hap)
      · refine Only.setCell (Only.grown (hO.alloc _) hg4 ?_) (fun _ => .inl rfl) _
        intro b hb1 hb2
        rcases hM.out with e | ⟨g, h1, h2⟩
        · exact .inr (e.symm.trans hb1)
        · have e := h2.symm.trans hb1
          cases e
          omega
    · have e1 : ¬ (j : Int) < (q : Int) / 64 + 1 - L.length := by omega
      have ej : j = q / 64 + 1 - L.length := by omega
      have hn : q / 64 < L.length + j := by omega
      obtain ⟨g, cap, rfl, hcell, hfr, hg1, hg2⟩ := own_at ho2 (q / 64) hn
      rw [show (w64 (padded L j))[q / 64]? = some (.int .u64 ((padded L j).getD (q / 64) 0)) by simp [w64, padded_len, hn]] at hcell
      have HS : Hid (setB L q = (padded L j).set (q / 64) (bits BinOp.or IntKind.u64 ((padded L j).getD (q / 64) 0) (IntKind.u64.wrap (2 ^ (q % 64))))) := by rw [ej]; rfl
      replace ej : Hid _ := ej
      generalize (padded L j).getD (q / 64) 0 = z at *
      have c1 := hV2.c1
      replace hV2 : Hid _ := hV2
      replace ho2 : Hid _ := ho2
      replace hM : Hid _ := hM
      have fr0 := hfr (q / 64)
      clear hfr
      go_wp2_with fail
      go_region
      go_returns
      have hg : Moved w (.slice na L.length nc) (.slice (some ⟨g, 0, none⟩) (L.length + j) cap) := hM.out
      refine ⟨rfl, _, VB.of hV2.out (Below.heap_setCell _ _ _ _ (fun e => hne (by simp [Value.ownBlock, e]))), ?_, hg, ?_⟩
      · rw [setB_len, ← ej.out, HS.out]
        have := own_put ho2.out (q / 64) hn (.int .u64 (bits BinOp.or IntKind.u64 z (IntKind.u64.wrap (2 ^ (q % 64)))))
        rw [show w64 ((padded L j).set (q / 64) (bits BinOp.or IntKind.u64 z (IntKind.u64.wrap (2 ^ (q % 64))))) = (w64 (padded L j)).set (q / 64) (.int .u64 (bits BinOp.or IntKind.u64 z (IntKind.u64.wrap (2 ^ (q % 64))))) by simp [w64, List.map_set]]
        exact this
      · refine Only.drew (Only.setCell hO (fun hl => ?_) _)
        rcases hg with e | ⟨b, h1, h2⟩
        · exact .inr (e.symm.trans rfl)
        · simp only [Value.ownBlock, Option.some.injEq] at h2
          simp only at hl
          omega
end Go.Proofs.YtomhgaihmdjdbaaDoor
