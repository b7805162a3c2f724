/-
  A tree that is handed in, opened.
-/
import Derived.Test.YtkcnpbckmdgfnaaGreatDoorPrx
import Derived.Test.YtkcnpbckmdgfnaaGreatDoorTba
import Derived.Test.YtkcnpbckmdgfnaaGreatDoorRka
import Derived.Test.YtkcnpbckmdgfnaaGreatDoorRows
namespace Go.Proofs.YtkcnpbckmdgfnaaGreatDoor
open Go.ChangeShapes Go.WideShapes Go.ChangeAt Go.RowKit Go.Lib
set_option linter.unusedSimpArgs false
set_option linter.unusedVariables false

theorem list5 {α : Type} {l : List α} (h : l.length = 5) : ∃ c0 c1 c2 c3 c4, l = [c0, c1, c2, c3, c4] := by
  match l, h with
  | [c0, c1, c2, c3, c4], _ => exact ⟨c0, c1, c2, c3, c4, rfl⟩
theorem list9 {α : Type} {l : List α} (h : l.length = 9) : ∃ c0 c1 c2 c3 c4 c5 c6 c7 c8, l = [c0, c1, c2, c3, c4, c5, c6, c7, c8] := by
  match l, h with
  | [c0, c1, c2, c3, c4, c5, c6, c7, c8], _ => exact ⟨c0, c1, c2, c3, c4, c5, c6, c7, c8, rfl⟩
theorem fc39 : Tryz.prog.cellsOf 39 = 9 := by kernel_rfl
theorem fc37 : Tryz.prog.cellsOf 37 = 5 := by kernel_rfl
theorem fc33 : Tryz.prog.cellsOf 33 = 1 := by kernel_rfl
theorem fc34 : Tryz.prog.cellsOf 34 = 1 := by kernel_rfl
theorem fc23 : Tryz.prog.cellsOf 23 = 1 := by kernel_rfl
theorem fc35 : Tryz.prog.cellsOf 35 = 1 := by kernel_rfl
theorem fc2 : Tryz.prog.cellsOf 2 = 1 := by kernel_rfl
def Tr.cl (kv pv : Value) : Tr → List Value
  | .mk op nm pr k b n t _ _ => [.int .i64 op, kv, .string (txt nm), .string (txt pr), .int .i64 k, .bool b, .int .i64 n, .string (txt t), pv]
theorem LAt.mk' {w : World} {g : Nat} : ∀ (ks : List Tr) (o : Nat), (∀ i x, ks[i]? = some x → ∃ kv pv, (∀ j v, (x.cl kv pv)[j]? = some v → w.cell? ⟨g, o + i * 9 + j, none⟩ = some v) ∧ PhAt w x.ph pv ∧ TAt w x kv) → LAt w g o ks
  | [], _, _ => by rw [LAt]; trivial
  | x :: r, o, h => by
    rw [LAt]
    refine ⟨?_, LAt.mk' r (o + 9) fun i y hy => ?_⟩
    · obtain ⟨kv, pv, h1, h2, h3⟩ := h 0 x rfl
      obtain ⟨op, nm, pr, k, b, n, t, ph, ks⟩ := x
      refine ⟨kv, pv, ⟨⟨?_, ?_, ?_, ?_, ?_, ?_, ?_, ?_, ?_⟩, h2⟩, h3⟩
      · simpa using h1 0 _ rfl
      · simpa using h1 1 _ rfl
      · simpa using h1 2 _ rfl
      · simpa using h1 3 _ rfl
      · simpa using h1 4 _ rfl
      · simpa using h1 5 _ rfl
      · simpa using h1 6 _ rfl
      · simpa using h1 7 _ rfl
      · simpa using h1 8 _ rfl
    · obtain ⟨kv, pv, h1, h2, h3⟩ := h (i + 1) y (by simpa using hy)
      refine ⟨kv, pv, fun j v hj => ?_, h2, h3⟩
      rw [show o + 9 + i * 9 + j = o + (i + 1) * 9 + j by omega]
      exact h1 j v hj
theorem fineL.mk' : ∀ ks : List Tr, (∀ x ∈ ks, fineT x) → fineL ks
  | [], _ => by rw [fineL]; trivial
  | x :: r, h => by rw [fineL]; exact ⟨h x (by simp), fineL.mk' r fun y hy => h y (by simp [hy])⟩
theorem all_list {α : Type} {P : Nat → α → Prop} : ∀ n : Nat, (∀ i, i < n → ∃ x, P i x) → ∃ l : List α, l.length = n ∧ ∀ i x, l[i]? = some x → P i x
  | 0, _ => ⟨[], rfl, fun i x h => by simp at h⟩
  | n + 1, h => by
    obtain ⟨l, hl, hp⟩ := all_list n fun i hi => h i (by omega)
    obtain ⟨x, hx⟩ := h n (by omega)
    refine ⟨l ++ [x], by simp [hl], fun i y hy => ?_⟩
    by_cases hi : i < l.length
    · rw [List.getElem?_append_left hi] at hy
      exact hp i y hy
    · have hi2 : i = n := by
        have := (List.getElem?_eq_some_iff.1 hy).1
        simp at this
        omega
      subst hi2
      rw [List.getElem?_append_right (by omega), hl, Nat.sub_self] at hy
      simp at hy
      subst hy
      exact hx
theorem bulk_mem {H : Type} {d : DataW H} : ∀ {l : List (DataW H)}, d ∈ l → Rows.uptoBulk d ≤ Rows.uptoBulkAll l
  | [], h => by simp at h
  | e :: r, h => by
    rw [Rows.uptoBulkAll]
    rcases List.mem_cons.1 h with rfl | h2
    · omega
    · have := bulk_mem h2
      omega
section
variable {H : Type} {enc : TypeId × Value → H} {W : World} {held : Bool}
/-- A value's path. -/
theorem open_ph {fuel : Nat} {cs : List Value} {x : DataW H × List MemPlace} (h : DataW.trod enc Tryz.prog W 0 (fun _ => true) held fuel 35 cs = some x) : ∃ (ph : List Int) (pv : Value), cs = [pv] ∧ PhAt W ph pv := by
  rcases open_ints Tryz.underlying35 Tryz.underlying2 fc2 h with ⟨hcs, _⟩ | ⟨a, l, c, zs, hcs, _, hl, hm, hz, _, hcell, hwz⟩
  · exact ⟨[], _, hcs, none, 0, rfl, .inl rfl⟩
  · simp only [if_true] at hz
    have hlen : (zs.take l).length = l := by simp; omega
    refine ⟨zs.take l, _, hcs, some a, c, by rw [hlen], ?_⟩
    by_cases hl0 : l = 0
    · left; simp [hl0]
    · obtain ⟨b, off, ha, hc⟩ := ints_at hcell (by omega)
      refine .inr ⟨b, off, by rw [ha], fun i hi => ?_⟩
      rw [hlen] at hi
      rw [hc i (by omega)]
      simp [List.getD, List.getElem?_take_of_lt hi]
theorem open_tree : ∀ (fuel : Nat) (cs : List Value) (x : DataW H × List MemPlace), DataW.trod enc Tryz.prog W 0 (fun _ => true) held fuel 39 cs = some x → ∃ (t : Tr) (kv pv : Value), cs = t.cl kv pv ∧ fineT t ∧ TAt W t kv ∧ PhAt W t.ph pv ∧ (Rows.uptoBulk x.1 ≤ 1048576 → Short t) := by
  intro fuel
  induction fuel using Nat.strongRecOn with
  | _ fuel ih =>
    intro cs x h
    obtain ⟨xs, n, hn, hx, hl, hxl, hget⟩ := DataW.trod_struct Tryz.underlying39 h
    rw [fc39] at hl
    obtain ⟨a0, a1, a2, a3, a4, a5, a6, a7, a8, rfl⟩ := list9 hl
    obtain ⟨y0, y1, y2, y3, y4, rfl⟩ := list5 (l := xs) (by rw [hxl]; rfl)
    have g0 : DataW.trod enc Tryz.prog W 0 (fun _ => true) held n 33 (([a0, a1, a2, a3, a4, a5, a6, a7, a8].drop 0).take (Tryz.prog.cellsOf 33)) = ([y0, y1, y2, y3, y4] : List _)[0]? := hget 0 _ rfl
    have g1 : DataW.trod enc Tryz.prog W 0 (fun _ => true) held n 23 (([a0, a1, a2, a3, a4, a5, a6, a7, a8].drop 1).take (Tryz.prog.cellsOf 23)) = ([y0, y1, y2, y3, y4] : List _)[1]? := hget 1 _ rfl
    have g2 : DataW.trod enc Tryz.prog W 0 (fun _ => true) held n 9 (([a0, a1, a2, a3, a4, a5, a6, a7, a8].drop 2).take (Tryz.prog.cellsOf 9)) = ([y0, y1, y2, y3, y4] : List _)[2]? := hget 2 _ rfl
    have g3 : DataW.trod enc Tryz.prog W 0 (fun _ => true) held n 9 (([a0, a1, a2, a3, a4, a5, a6, a7, a8].drop 3).take (Tryz.prog.cellsOf 9)) = ([y0, y1, y2, y3, y4] : List _)[3]? := hget 3 _ rfl
    have g4 : DataW.trod enc Tryz.prog W 0 (fun _ => true) held n 37 (([a0, a1, a2, a3, a4, a5, a6, a7, a8].drop 4).take (Tryz.prog.cellsOf 37)) = ([y0, y1, y2, y3, y4] : List _)[4]? := hget 4 _ rfl
    simp only [fc33, fc23, fc37, cells9, List.drop_zero, List.drop_succ_cons, List.take_succ_cons, List.take_zero, List.getElem?_cons_zero, List.getElem?_cons_succ] at g0 g1 g2 g3 g4
    obtain ⟨op, e0, _, _⟩ := DataW.trod_int Tryz.underlying33 g0
    obtain ⟨s2, e2, x2, w2⟩ := DataW.trod_string Tryz.underlying9 g2
    obtain ⟨s3, e3, x3, w3⟩ := DataW.trod_string Tryz.underlying9 g3
    obtain ⟨zs, m, hm, _, _, hzl, hget4⟩ := DataW.trod_struct Tryz.underlying37 g4
    obtain ⟨z0, z1, z2, z3, z4, rfl⟩ := list5 (l := zs) (by rw [hzl]; rfl)
    have k0 : DataW.trod enc Tryz.prog W 0 (fun _ => true) held m 34 (([a4, a5, a6, a7, a8].drop 0).take (Tryz.prog.cellsOf 34)) = ([z0, z1, z2, z3, z4] : List _)[0]? := hget4 0 _ rfl
    have k1 : DataW.trod enc Tryz.prog W 0 (fun _ => true) held m 4 (([a4, a5, a6, a7, a8].drop 1).take (Tryz.prog.cellsOf 4)) = ([z0, z1, z2, z3, z4] : List _)[1]? := hget4 1 _ rfl
    have k2 : DataW.trod enc Tryz.prog W 0 (fun _ => true) held m 2 (([a4, a5, a6, a7, a8].drop 2).take (Tryz.prog.cellsOf 2)) = ([z0, z1, z2, z3, z4] : List _)[2]? := hget4 2 _ rfl
    have k3 : DataW.trod enc Tryz.prog W 0 (fun _ => true) held m 9 (([a4, a5, a6, a7, a8].drop 3).take (Tryz.prog.cellsOf 9)) = ([z0, z1, z2, z3, z4] : List _)[3]? := hget4 3 _ rfl
    have k4 : DataW.trod enc Tryz.prog W 0 (fun _ => true) held m 35 (([a4, a5, a6, a7, a8].drop 4).take (Tryz.prog.cellsOf 35)) = ([z0, z1, z2, z3, z4] : List _)[4]? := hget4 4 _ rfl
    simp only [fc34, fc4, fc2, fc35, cells9, List.drop_zero, List.drop_succ_cons, List.take_succ_cons, List.take_zero, List.getElem?_cons_zero, List.getElem?_cons_succ] at k0 k1 k2 k3 k4
    obtain ⟨kk, e4, _, _⟩ := DataW.trod_int Tryz.underlying34 k0
    obtain ⟨bb, e5, _⟩ := DataW.trod_bool Tryz.underlying4 k1
    obtain ⟨nn, e6, _, w6⟩ := DataW.trod_int Tryz.underlying2 k2
    obtain ⟨s7, e7, _, w7⟩ := DataW.trod_string Tryz.underlying9 k3
    obtain ⟨ph, pv, e8, hph⟩ := open_ph k4
    simp only [List.cons.injEq, and_true] at e0 e2 e3 e4 e5 e6 e7 e8
    subst e0 e2 e3 e4 e5 e6 e7 e8
    have hnn := bounds_i64 w6
    have key : ∃ ks : List Tr, (∃ p c, a1 = .slice p ks.length c ∧ (ks = [] ∨ ∃ g o, p = some ⟨g, o, none⟩ ∧ LAt W g o ks)) ∧ fineL ks ∧ ks.length ≤ maxLen ∧ (Rows.uptoBulk y1.1 ≤ 1048576 → ∀ t ∈ ks, Short t) := by
      rcases DataW.trod_slice Tryz.underlying23 g1 with ⟨e1, _⟩ | ⟨a, len, cap, elems, rest, n', hn', e1, ey, _, hlc, hcm, hel, hget1, _, _⟩
      · simp only [List.cons.injEq, and_true] at e1
        exact ⟨[], ⟨none, 0, e1, .inl rfl⟩, by rw [fineL]; trivial, Nat.zero_le _, fun _ t ht => by simp at ht⟩
      · simp only [List.cons.injEq, and_true] at e1
        rw [fc39] at hget1
        have each : ∀ i, i < len → ∃ t : Tr, ∃ kv pv, (∀ j v, (t.cl kv pv)[j]? = some v → W.cell? (a.add (i * 9 + j)) = some v) ∧ fineT t ∧ TAt W t kv ∧ PhAt W t.ph pv ∧ (Rows.uptoBulk y1.1 ≤ 1048576 → Short t) := by
          intro i hi
          have h1 := hget1 i hi
          obtain ⟨y, hy⟩ : ∃ y, elems[i]? = some y := ⟨elems[i], List.getElem?_eq_getElem (by omega)⟩
          rw [hy, Option.bind_eq_some_iff] at h1
          obtain ⟨cs', hcs, ht⟩ := h1
          obtain ⟨t, kv, pv, e, hf, hta, hpa, hsh⟩ := ih n' (by omega) cs' y ht
          have hle : Rows.uptoBulk y.1 ≤ Rows.uptoBulk y1.1 := by
            rw [ey]
            dsimp only
            rw [Rows.uptoBulk]
            have := bulk_mem (List.mem_map_of_mem (f := (·.1)) (List.mem_of_getElem? hy))
            omega
          refine ⟨t, kv, pv, fun j v hj => ?_, hf, hta, hpa, fun hu => hsh (by omega)⟩
          have hj9 : j < 9 := by
            have := (List.getElem?_eq_some_iff.1 hj).1
            cases t
            simpa [Tr.cl] using this
          have h2 := (World.cells?_some hcs).2.2 j hj9
          rw [e, hj] at h2
          have ea : (a.add (i * 9)).add j = a.add (i * 9 + j) := Addr.add_add a _ _
          rw [← ea]
          exact h2
        obtain ⟨ks, hkl, hks⟩ := all_list len each
        refine ⟨ks, ⟨some a, cap, by rw [hkl]; exact e1, ?_⟩, fineL.mk' ks fun t ht => ?_, by omega, fun hu t ht => ?_⟩
        · by_cases h0 : ks = []
          · exact .inl h0
          · right
            have hpos : 0 < ks.length := List.length_pos_iff.2 h0
            obtain ⟨t0, ht0⟩ : ∃ t, ks[0]? = some t := ⟨ks[0], List.getElem?_eq_getElem hpos⟩
            obtain ⟨kv, pv, hc, _⟩ := hks 0 t0 ht0
            obtain ⟨b, off, spot⟩ := a
            have hc0 : ∃ v, (t0.cl kv pv)[0]? = some v := by cases t0; exact ⟨_, rfl⟩
            obtain ⟨v0, hv0⟩ := hc0
            have hspot : spot = none := by simpa [Addr.add] using World.cell?_spot (hc 0 v0 hv0)
            subst hspot
            refine ⟨b, off, rfl, LAt.mk' ks off fun i t ht => ?_⟩
            obtain ⟨kv, pv, hc, _, hta, hpa, _⟩ := hks i t ht
            refine ⟨kv, pv, fun j v hj => ?_, hpa, hta⟩
            have := hc j v hj
            rw [Go.WideShapes.add_plain] at this
            rw [Nat.add_assoc]
            exact this
        · obtain ⟨i, hi⟩ := List.getElem?_of_mem ht
          obtain ⟨kv, pv, _, hf, _⟩ := hks i t hi
          exact hf
        · obtain ⟨i, hi⟩ := List.getElem?_of_mem ht
          obtain ⟨kv, pv, _, _, _, _, hs⟩ := hks i t hi
          exact hs hu
    obtain ⟨ks, hk1, hk2, hk3, hk4⟩ := key
    refine ⟨.mk op s2.data.toList s3.data.toList kk bb nn s7.data.toList ph ks, a1, _, ?_, ?_, ?_, hph, fun hu => ?_⟩
    · unfold Tr.cl
      dsimp only
      rw [txt_of, txt_of, txt_of]
    · rw [fineT]
      have q : ∀ s : ByteArray, s.data.toList.length = s.size := fun s => Array.length_toList
      rw [q, q, q]
      exact ⟨w2, w3, hnn.2, w7, hk3, hk2⟩
    · rw [TAt]
      exact hk1
    · have q : ∀ s : ByteArray, s.data.toList.length = s.size := fun s => Array.length_toList
      rw [hx] at hu
      dsimp only at hu
      rw [Rows.uptoBulk] at hu
      have b1 := bulk_mem (d := y1.1) (l := [y0, y1, y2, y3, y4].map (·.1)) (by simp)
      have b2 := bulk_mem (d := y2.1) (l := [y0, y1, y2, y3, y4].map (·.1)) (by simp)
      have b3 := bulk_mem (d := y3.1) (l := [y0, y1, y2, y3, y4].map (·.1)) (by simp)
      have c2 : Rows.uptoBulk y2.1 = s2.data.toList.length + 1 := by rw [x2]; rw [Rows.uptoBulk]
      have c3 : Rows.uptoBulk y3.1 = s3.data.toList.length + 1 := by rw [x3]; rw [Rows.uptoBulk]
      exact Short.mk _ _ _ _ _ _ _ _ _ (by omega) (by omega) (hk4 (by omega))
end
end Go.Proofs.YtkcnpbckmdgfnaaGreatDoor
