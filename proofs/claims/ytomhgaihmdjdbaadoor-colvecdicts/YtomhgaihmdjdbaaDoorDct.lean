/-
  The dictionary: a text and its number.
-/
import Derived.Test.YtomhgaihmdjdbaaDoorCol
import Derived.WalkMore
import Derived.StringKeys
import Derived.ScopeJumps
import Derived.WideShapes
namespace Go.Proofs.YtomhgaihmdjdbaaDoor
open Go.RowKit Go.Maps
set_option linter.unusedSimpArgs false
set_option linter.unusedVariables false

theorem law9 : Keyed Tryd.prog 9 := string_keyed Tryd.underlying9
theorem info9 : (Tryd.prog.info? 9).map (fun i => (i.zero, i.size, i.bytes)) = some (some (.string ⟨#[]⟩), 1, 16) := by kernel_rfl
theorem zero2 (w : World) : (zeroValue 2).run Tryd.prog w = .ok (.int .i64 0) w := by kernel_rfl
set_option maxRecDepth 100000 in
theorem elem_inv {v : Value} {a : Int} {ps : List MemPlace} (h : plainElem (H := Unit) Tryd.prog 2 v = some (.lit (.int .i64 a), ps)) : v = .int .i64 a := by
  unfold plainElem at h
  rw [Tryd.underlying2] at h
  cases v <;> simp at h
  obtain ⟨⟨rfl, _⟩, rfl, _⟩ := h
  rfl
theorem look_has {w : World} {b : Nat} {X : List ByteArray} (h : MapAt w (.map (some b)) X) (s : ByteArray) (hs : s.size ≤ maxLen) (i : Nat) (hi : X[i]? = some s) :
    (Instr.lookup 62 (.map (some b)) (.string s) true).run Tryd.prog w = .ok (.tuple #[.int .i64 (i : Int), .bool true]) w := by
  rcases h with ⟨e, _⟩ | ⟨b', D, e, ho, h1, h2⟩
  · cases e
  · cases e
    obtain ⟨v, ps, hr, hv⟩ := ho.look_ok law9 Tryd.underlying62 (zero2 w) (zd := .lit (.int .i64 0)) (zp := []) (by kernel_rfl) (WideMaps.keyOf_string_mk Tryd.underlying9 hs)
    rw [h2 i s hi] at hv
    rw [(h1 s).2 (List.mem_of_getElem? hi)] at hr
    rw [hr, elem_inv hv]
theorem look_not {w : World} {b : Nat} {X : List ByteArray} (h : MapAt w (.map (some b)) X) (s : ByteArray) (hs : s.size ≤ maxLen) (hi : s ∉ X) :
    (Instr.lookup 62 (.map (some b)) (.string s) true).run Tryd.prog w = .ok (.tuple #[.int .i64 0, .bool false]) w := by
  rcases h with ⟨e, _⟩ | ⟨b', D, e, ho, h1, h2⟩
  · cases e
  · cases e
    obtain ⟨v, ps, hr, hv⟩ := ho.look_ok law9 Tryd.underlying62 (zero2 w) (zd := .lit (.int .i64 0)) (zp := []) (by kernel_rfl) (WideMaps.keyOf_string_mk Tryd.underlying9 hs)
    have hn : Maps.has D (.string s.data.toList) = false := by
      cases hh : Maps.has D (.string s.data.toList) with
      | false => rfl
      | true => exact absurd ((h1 s).1 hh) hi
    rw [Maps.atKey_of_not_has hn] at hv
    rw [hn] at hr
    rw [hr, elem_inv hv]
set_option maxRecDepth 100000 in
theorem map_no (w : World) (b : Nat) : (binOp BinOp.eql 62 (.map (some b)) (.map none)).run Tryd.prog w = .ok (.bool false) w := by
  first | rfl | kernel_rfl
set_option maxRecDepth 100000 in
theorem map_yes (w : World) : (binOp BinOp.eql 62 (.map none) (.map none)).run Tryd.prog w = .ok (.bool true) w := by
  first | rfl | kernel_rfl
set_option maxRecDepth 100000 in
theorem look_nil (s : ByteArray) (w : World) : (Instr.lookup 62 (.map none) (.string s) true).run Tryd.prog w = .ok (.tuple #[.int .i64 0, .bool false]) w := by
  first | rfl | kernel_rfl
/-- A text is put behind the others: its number is how many there were. -/
theorem mapAt_put {w' : World} {b : Nat} {X : List ByteArray} {D : DataW Unit} (s : ByteArray) (hi : s ∉ X) (hm : w'.ownsMap (H := Unit) Tryd.prog 9 (plainElem Tryd.prog 2) b (X.length + 1) (D.put (.string s.data.toList) (.lit (.int .i64 (X.length : Int))))) (hD : Maps.IsMap D)
    (h1 : ∀ s : ByteArray, Maps.has D (.string s.data.toList) = true ↔ s ∈ X) (h2 : ∀ (i : Nat) (s : ByteArray), X[i]? = some s → D.atKey (.string s.data.toList) (.lit (.int .i64 0)) = .lit (.int .i64 (i : Int))) : MapAt w' (.map (some b)) (X ++ [s]) := by
  have key : ∀ t : ByteArray, t ≠ s → (Lit.string t.data.toList) ≠ (Lit.string s.data.toList) := fun t ht e => ht (WideShapes.bytes_inj (by simpa using e))
  have hk : WideAt.IsKeyLit (Lit.string s.data.toList) := by simp [WideAt.IsKeyLit]
  refine .inr ⟨b, _, rfl, by simpa using hm, fun t => ?_, fun i t ht => ?_⟩
  · by_cases e : t = s
    · subst e
      rw [Maps.has_put_same hD hk]
      simp
    · rw [Maps.has_put_other (key t e)]
      simp [h1 t, e]
  · by_cases hi' : i < X.length
    · rw [List.getElem?_append_left hi'] at ht
      have hne : t ≠ s := fun e => hi (e ▸ List.mem_of_getElem? ht)
      rw [Maps.atKey_put_other (key t hne)]
      exact h2 i t ht
    · rw [List.getElem?_append_right (by omega)] at ht
      have hl : i - X.length = 0 := by
        by_cases h0 : i - X.length = 0
        · exact h0
        · rw [List.getElem?_eq_none (by simp; omega)] at ht; cases ht
      rw [hl] at ht
      simp at ht
      subst ht
      rw [Maps.atKey_put_same hD hk, show i = X.length by omega]

set_option maxRecDepth 100000 in
set_option maxHeartbeats 2000000 in
theorem dnum_has (x : Nat) (k : Int) (nv mv tv hv : Value) (b : Nat) (X : List ByteArray) (s : ByteArray) (hs : s.size ≤ maxLen) (i : Nat) (hi : X[i]? = some s) (w : World) (hV : VB w x k nv mv tv (.map (some b)) hv) (hM : MapAt w (.map (some b)) X) :
    Calls Tryd.prog 66 #[.pointer (some ⟨x, 3, none⟩), .string s] w fun e w' => e = .returned (.int .i64 (i : Int)) ∧ w' = w := by
  have hl := look_has hM s hs i hi
  have c4 := hV.c4
  clear hM hV hi
  go_enter Tryd.func66, Tryd.ntmps66
  go_wp2
  refine wp_scope_jumps 0 (fun a' w' => a' = { tmps := #[.pointer (some ⟨x, 3, none⟩), .string s, undef, undef, .int .i64 0, .int .i64 (i : Int), .bool true, .tuple #[.int .i64 (i : Int), .bool true], .pointer (some ⟨x, 3, none⟩), .pointer (some ⟨x, 3, none⟩), .pointer (some ⟨x, 4, none⟩), .map (some b), .string s, .tuple #[.int .i64 (i : Int), .bool true], .int .i64 (i : Int), .bool true, .bool true, undef, undef, undef, undef, undef, undef, undef, undef, undef, undef, undef, undef, undef, undef, undef, undef, undef, undef, undef, undef, undef, undef, undef, undef, undef, undef, undef, undef, undef, undef, undef], defers := [] } ∧ w' = w) (fun _ _ => 0) rfl ?_ ?_
  · go_wp2
    go_step3
    exact ⟨rfl, rfl, rfl⟩
  · rintro a' w' ⟨rfl, rfl⟩
    go_wp2
    simp only [Exit.jump]
    go_returns
    exact ⟨rfl, rfl⟩

set_option maxRecDepth 100000 in
set_option maxHeartbeats 2000000 in
theorem dnum_new (x base : Nat) (k : Int) (nv mv tv hv : Value) (b : Nat) (X : List ByteArray) (s : ByteArray) (hs : s.size ≤ maxLen) (hi : s ∉ X) (w : World) (hV : VB w x k nv mv tv (.map (some b)) hv) (hM : MapAt w (.map (some b)) X) (ho : w.ownsRow base 9 1 tv X.length (X.map .string)) (hX : (X.length + 1) * 16 ≤ 140737488355328) (hb : base ≤ w.heap.size) (n1 : tv.ownBlock ≠ some x) (n2 : tv.ownBlock ≠ some b) (n3 : b ≠ x) :
    Calls Tryd.prog 66 #[.pointer (some ⟨x, 3, none⟩), .string s] w fun e w' => e = .returned (.int .i64 (X.length : Int)) ∧ ∃ tv', VB w' x k nv mv tv' (.map (some b)) hv ∧ w'.ownsRow base 9 1 tv' (X ++ [s]).length ((X ++ [s]).map .string) ∧ MapAt w' (.map (some b)) (X ++ [s]) ∧ Moved w tv tv' ∧ Only (fun j => j = x ∨ tv.ownBlock = some j ∨ j = b) w w' := by
  obtain ⟨i0, hi0, hz0, hz1, hz2⟩ := info_parts info9
  have hl := look_not hM s hs hi
  have c3 := hV.c3
  have c4 := hV.c4
  have hxl := hV.lt
  obtain ⟨ta, tc, rfl⟩ := own_slice ho
  obtain ⟨D, hm, h1, h2⟩ : ∃ D, w.ownsMap (H := Unit) Tryd.prog 9 (plainElem Tryd.prog 2) b X.length D ∧ (∀ s : ByteArray, Maps.has D (.string s.data.toList) = true ↔ s ∈ X) ∧ ∀ (i : Nat) (s : ByteArray), X[i]? = some s → D.atKey (.string s.data.toList) (.lit (.int .i64 0)) = .lit (.int .i64 (i : Int)) := by
    rcases hM with ⟨e, _⟩ | ⟨b', D, e, q1, q2, q3⟩
    · cases e
    · cases e; exact ⟨D, q1, q2, q3⟩
  have hmn := map_no w b
  have hwf : plainElem (H := Unit) Tryd.prog 2 (.int .i64 (X.length : Int)) = some (.lit (.int .i64 (X.length : Int)), []) := plainElem_int Tryd.underlying2 (by simp [Lit.wf, IntKind.min, IntKind.max, IntKind.bits, IntKind.signed]; omega)
  replace hwf : Hid _ := hwf
  replace hV : Hid _ := hV
  replace ho : Hid _ := ho
  replace hi : Hid _ := hi
  replace hm : Hid _ := hm
  replace h1 : Hid _ := h1
  replace h2 : Hid _ := h2
  clear hM
  go_enter Tryd.func66, Tryd.ntmps66
  go_wp2
  go_step3
  go_wp2_with (at_builtin; refine wpList_append_own_at _ rfl _ _ 54 rfl base 9 i0 (.string ⟨#[]⟩) 1 16 Tryd.underlying54 hi0 hz0 hz1 hz2 rfl (by decide) _ _ _ rfl (World.ownsRow.alloc ho.out _) ⟨w.heap.size, 0, none⟩ 1 1 [.string s] rfl rfl (cell_one_new _ _ _) (by simp [Value.oneCell']) (by unfold maxLen; omega) (by omega) (by simp; omega) ?_; intro v4 w4 ho4 hg4 hnil4 hloc4; obtain ⟨ba, bc, rfl⟩ := own_slice ho4; have hV4 := (VB.below hV.out (below_new w (.cells #[.string s] 9))).grown hg4 n1; have d3 := hV4.c3; have d4 := hV4.c4; have fr3 := hV4.fr 3; have hm4 := World.ownsMap.kept (World.ownsMap.alloc hm.out (.cells #[.string s] 9)) hg4 (Ne.symm n2); obtain ⟨w6, hup, hm6, ht6⟩ := World.ownsMap.store (World.ownsMap.setCell hm4 (a := ⟨x, 3, none⟩) n3 (.slice ba (X.length + 1) bc)) law9 Tryd.underlying62 (by unfold maxLen; omega) (WideMaps.keyOf_string_mk Tryd.underlying9 hs) hwf.out; have d4' : (w4.setCell ⟨x, 3, none⟩ (.slice ba (X.length + 1) bc)).cell? ⟨x, 4, none⟩ = some (.map (some b)) := (VB.set3 hV4 _).c4; replace ho4 : Hid _ := ho4; replace hV4 : Hid _ := hV4; replace hloc4 : Hid _ := hloc4; replace hm6 : Hid _ := hm6; replace ht6 : Hid _ := ht6; clear c3 c4 hl hm4)
  go_step3
  go_wp2
  rw [Exit.noGoto_ret]
  go_returns
  have hMv : Moved w (.slice ta X.length tc) (.slice ba (X.length + 1) bc) := by
    rcases hloc4.out with e | e
    · exact .inl e
    · exact .inr ⟨_, by simp, e⟩
  have hne : (Value.slice ba (X.length + 1) bc).ownBlock ≠ some x := hMv.ne hxl n1
  have hnb : (Value.slice ba (X.length + 1) bc).ownBlock ≠ some b := hMv.ne (World.ownsMap.lt hm.out) n2
  have hO6 : Only (fun j => j = b) (w4.setCell ⟨x, 3, none⟩ (.slice ba (X.length + 1) bc)) w6 := by
    have g := World.mapTurned.grown ht6.out
    exact ⟨g.os, g.tape, g.output, g.size, fun k hk hn => g.block k hk (fun e => hn (by simpa using e))⟩
  refine ⟨rfl, _, (VB.set3 hV4.out _).only hO6 (fun e => n3 e.symm), ?_, ?_, hMv, ?_⟩
  · have := own_only (own_set ho4.out (p := ⟨x, 3, none⟩) (.slice ba (X.length + 1) bc) hne) hO6 (fun j e h => hnb (by rw [e, h]))
    simpa using this
  · exact mapAt_put s hi.out hm6.out (World.ownsMap.isMap hm.out) h1.out h2.out
  · refine Only.trans (Only.setCell (Only.grown ((Only.refl _ w).alloc _) hg4 (fun j e _ => .inr (.inl e))) (fun _ => .inl rfl) _) hO6 (fun j _ e => .inr (.inr e))
end Go.Proofs.YtomhgaihmdjdbaaDoor
