/-
  The first text of a dictionary.
-/
import Derived.Test.YtomhgaihmdjdbaaDoorDct
namespace Go.Proofs.YtomhgaihmdjdbaaDoor
open Go.RowKit Go.Maps
set_option linter.unusedSimpArgs false
set_option linter.unusedVariables false

set_option maxRecDepth 100000 in
theorem make62 (w : World) : (Instr.makeMap 62 none).run Tryd.prog w = .ok (.map (some w.heap.size)) (w.alloc (.map #[] 0)) := by
  first | rfl | kernel_rfl

set_option maxRecDepth 100000 in
set_option maxHeartbeats 2000000 in
theorem dnum_first (x base : Nat) (k : Int) (nv mv tv hv : Value) (s : ByteArray) (hs : s.size ≤ maxLen) (w : World) (hV : VB w x k nv mv tv (.map none) hv) (ho : w.ownsRow base 9 1 tv 0 []) (hb : base ≤ w.heap.size) (n1 : tv.ownBlock ≠ some x) :
    Calls Tryd.prog 66 #[.pointer (some ⟨x, 3, none⟩), .string s] w fun e w' => e = .returned (.int .i64 0) ∧ ∃ tv' b, w.heap.size ≤ b ∧ VB w' x k nv mv tv' (.map (some b)) hv ∧ w'.ownsRow base 9 1 tv' [s].length ([s].map .string) ∧ MapAt w' (.map (some b)) [s] ∧ Moved w tv tv' ∧ tv'.ownBlock ≠ some b ∧ Only (fun j => j = x ∨ tv.ownBlock = some j) w w' := by
  obtain ⟨i0, hi0, hz0, hz1, hz2⟩ := info_parts info9
  have hl := look_nil s w
  have c3 := hV.c3
  have c4 := hV.c4
  have hxl := hV.lt
  have fr4 := hV.fr 4
  obtain ⟨ta, tc, rfl⟩ := own_slice ho
  have hmn := map_yes w
  have hwf : plainElem (H := Unit) Tryd.prog 2 (.int .i64 0) = some (.lit (.int .i64 0), []) := plainElem_int Tryd.underlying2 (by decide)
  replace hwf : Hid _ := hwf
  have hmk := make62 w
  have hxn : w.heap.size ≠ x := by omega
  have hmm : ((w.setCell ⟨x, 4, none⟩ (.map (some w.heap.size))).alloc (.map #[] 0)).ownsMap (H := Unit) Tryd.prog 9 (plainElem Tryd.prog 2) w.heap.size 0 (.map []) := by
    have := World.ownsMap_made (H := Unit) (w.setCell ⟨x, 4, none⟩ (.map (some w.heap.size))) Tryd.prog 9 (plainElem Tryd.prog 2)
    simpa using this
  replace hmm : Hid _ := hmm
  have hb4 : some w.heap.size ≠ (Value.slice ta 0 tc).ownBlock := fun e => by have := (ho.lt _ e.symm).2; omega
  replace hV : Hid _ := hV
  have hoS : Hid ((w.setCell ⟨x, 4, none⟩ (.map (some w.heap.size))).ownsRow base 9 1 (.slice ta 0 tc) 0 []) := own_set ho (p := ⟨x, 4, none⟩) (.map (some w.heap.size)) n1
  clear ho
  go_enter Tryd.func66, Tryd.ntmps66
  go_wp2
  go_step3
  go_wp2_with (at_builtin; refine wpList_append_own_at _ rfl _ _ 54 rfl base 9 i0 (.string ⟨#[]⟩) 1 16 Tryd.underlying54 hi0 hz0 hz1 hz2 rfl (by decide) _ _ _ rfl (World.ownsRow.alloc (World.ownsRow.alloc hoS.out _) _) ⟨w.heap.size + 1, 0, none⟩ 1 1 [.string s] rfl rfl (cell_one_at _ _ _ _ (by simp)) (by simp [Value.oneCell']) (by unfold maxLen; omega) (by omega) (by simp; omega) ?_; intro v4 w4 ho4 hg4 hnil4 hloc4; obtain ⟨ba, bc, rfl⟩ := own_slice ho4; have hV4 := (VB.below (VB.below (VB.set4 hV.out (.map (some w.heap.size))) (below_new _ (.map #[] 0))) (below_new _ (.cells #[.string s] 9))).grown hg4 n1; have d3 := hV4.c3; have d4 := hV4.c4; have fr3 := hV4.fr 3; have hm4 := World.ownsMap.kept (World.ownsMap.alloc hmm.out (.cells #[.string s] 9)) hg4 hb4; obtain ⟨w6, hup, hm6, ht6⟩ := World.ownsMap.store (World.ownsMap.setCell hm4 (a := ⟨x, 3, none⟩) hxn (.slice ba (0 + 1) bc)) law9 Tryd.underlying62 (by unfold maxLen; omega) (WideMaps.keyOf_string_mk Tryd.underlying9 hs) hwf.out; have d4' : (w4.setCell ⟨x, 3, none⟩ (.slice ba (0 + 1) bc)).cell? ⟨x, 4, none⟩ = some (.map (some w.heap.size)) := (VB.set3 hV4 _).c4; replace ho4 : Hid _ := ho4; replace hV4 : Hid _ := hV4; replace hloc4 : Hid _ := hloc4; replace hm6 : Hid _ := hm6; replace ht6 : Hid _ := ht6; clear c3 c4 hl hm4)
  go_step3
  go_wp2
  rw [Exit.noGoto_ret]
  go_returns
  have hMv : Moved w (.slice ta 0 tc) (.slice ba (0 + 1) bc) := by
    rcases hloc4.out with e | e
    · exact .inl e
    · exact .inr ⟨_, by simp; omega, e⟩
  have hne : (Value.slice ba (0 + 1) bc).ownBlock ≠ some x := hMv.ne hxl n1
  have hnb : (Value.slice ba (0 + 1) bc).ownBlock ≠ some w.heap.size := fun e => by
    rcases hloc4.out with q | q
    · exact hb4 (e.symm.trans q)
    · have h := Option.some.inj (e.symm.trans q)
      have h2 : (((w.setCell ⟨x, 4, none⟩ (.map (some w.heap.size))).alloc (.map #[] 0)).alloc (.cells #[.string s] 9)).heap.size = w.heap.size + 1 + 1 := by simp
      omega
  have hO6 : Only (fun j => j = w.heap.size) (w4.setCell ⟨x, 3, none⟩ (.slice ba (0 + 1) bc)) w6 := by
    have g := World.mapTurned.grown ht6.out
    exact ⟨g.os, g.tape, g.output, g.size, fun k hk hn => g.block k hk (fun e => hn (by simpa using e))⟩
  refine ⟨rfl, _, w.heap.size, Nat.le_refl _, (VB.set3 hV4.out _).only hO6 (fun e => hxn e.symm), ?_, ?_, hMv, hnb, ?_⟩
  · have := own_only (own_set ho4.out (p := ⟨x, 3, none⟩) (.slice ba (0 + 1) bc) hne) hO6 (fun j e h => hnb (by rw [e, h]))
    simpa using this
  · exact mapAt_put (X := []) s (by simp) hm6.out (World.ownsMap.isMap hmm.out) (fun t => by simp [Maps.has]) (fun i t ht => by simp at ht)
  · refine Only.trans (Only.setCell (Only.grown (Only.alloc (Only.alloc (Only.setCell (Only.refl _ w) (fun _ => .inl rfl) _) _) _) hg4 (fun j e _ => .inr e)) (fun _ => .inl rfl) _) hO6 (fun j hj e => by omega)
end Go.Proofs.YtomhgaihmdjdbaaDoor
