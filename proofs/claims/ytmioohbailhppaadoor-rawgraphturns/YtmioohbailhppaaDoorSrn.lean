/-
  Nodes and edges by rising IDs: what slices.SortFunc makes of them.
-/
import Derived.Test.YtmioohbailhppaaDoorSlay
import Derived.Test.YtmioohbailhppaaDoorSpr
namespace Go.Proofs.YtmioohbailhppaaDoor
open Go.RowKit Go.Sort
set_option linter.unusedSimpArgs false
set_option linter.unusedVariables false

theorem nan_no (x : Int) (w : World) : Calls Tryd.prog 65 #[.int .i64 x] w fun e w' => e = .returned (.bool false) ∧ w' = w := by
  go_enter Tryd.func65, Tryd.ntmps65
  go_wp2_with fail
  go_ret
  exact ⟨by simp, rfl⟩
theorem cmp_any (x y : Int) (w : World) : Calls Tryd.prog 51 #[.int .i64 x, .int .i64 y] w fun e w' => e = .returned (.int .i64 (Lib.compareInt x y)) ∧ w' = w := by
  have hn := fun x w => nan_no x w
  replace hn : Hid _ := hn
  unfold Lib.compareInt
  by_cases h1 : x < y
  · rw [if_pos h1]
    go_enter Tryd.func51, Tryd.ntmps51
    go_wp2_with (go_at_call 65; refine (hn.out _ _).mono ?_; rintro e w' ⟨rfl, rfl⟩)
    go_ret
    exact ⟨rfl, rfl⟩
  · rw [if_neg h1]
    by_cases h2 : x > y
    · rw [if_pos h2]
      go_enter Tryd.func51, Tryd.ntmps51
      go_wp2_with (go_at_call 65; refine (hn.out _ _).mono ?_; rintro e w' ⟨rfl, rfl⟩)
      go_ret
      exact ⟨rfl, rfl⟩
    · rw [if_neg h2]
      go_enter Tryd.func51, Tryd.ntmps51
      go_wp2_with (go_at_call 65; refine (hn.out _ _).mono ?_; rintro e w' ⟨rfl, rfl⟩)
      go_ret
      exact ⟨rfl, rfl⟩
theorem sort_only {α : Type} [Inhabited α] (enc : α → List Value) (k : Nat) (w : World) (g n : Nat) (d : Array α) (os : Array Obj) : Only (fun k => k = g) w (sortWorldK enc k w g 0 n d os) := by
  refine ⟨rfl, rfl, rfl, size_sortWorldK_c enc k w g 0 n d os, fun j hj hne => ?_⟩
  unfold sortWorldK
  rw [heap_grow_old _ _ (by rw [size_putRowK]; exact hj)]
  show (w.heap.modify g _)[j]? = _
  rw [Array.getElem?_modify, if_neg (fun e => hne e.symm)]
theorem sort_froze {α : Type} [Inhabited α] (enc : α → List Value) (k : Nat) (w : World) (g n : Nat) (d : Array α) (os : Array Obj) (hg : g < w.heap.size) (j : Nat) : (sortWorldK enc k w g 0 n d os).frozen? ⟨g, j, none⟩ = w.frozen? ⟨g, j, none⟩ := by
  unfold sortWorldK
  rw [frozen?_grow _ _ _ (by rw [size_putRowK]; exact hg)]
  unfold putRowK
  rw [frozen?_putRow]
  rfl
theorem get!_getD {α : Type} [Inhabited α] (L : List α) (i : Nat) (h : i < L.length) : L.toArray[i]! = L.getD i default := by
  rw [getElem!_pos L.toArray i (by simpa using h)]
  simp [List.getD, List.getElem?_eq_getElem h]
theorem OR.holds {α : Type} [Inhabited α] {w : World} {g k : Nat} {cs : α → List Value} {M : List α} (h : OR w g k cs M) (hk : ∀ x, (cs x).length = k) (k0 : 0 < k) : HoldsK cs k w g 0 M.toArray := by
  intro t ht
  rw [size_flatK] at ht
  simp only [List.size_toArray] at ht
  refine ⟨?_, by rw [Nat.zero_add]; exact h.fr t⟩
  have hlt : t / k < M.length := Nat.div_lt_of_lt_mul (by rwa [Nat.mul_comm])
  have hm : t % k < k := Nat.mod_lt _ k0
  have hc := h.cell (t / k) hlt (t % k) hm
  rw [Nat.div_add_mod'] at hc
  rw [Nat.zero_add, hc, get_flatK _ _ _ _ (by simpa using ht), get!_getD M _ hlt]
  have : t % k < (cs (M.getD (t / k) default)).length := by rw [hk]; exact hm
  rw [List.getElem?_eq_getElem this, id, getElem!_pos (cs (M.getD (t / k) default)) (t % k) this]
theorem OR.of_holds {α : Type} [Inhabited α] {w : World} {g k : Nat} {cs : α → List Value} {d : Array α} (h : HoldsK cs k w g 0 d) (hk : ∀ x, (cs x).length = k) (hf : ∀ j, w.frozen? ⟨g, j, none⟩ = false) : OR w g k cs d.toList := by
  refine ⟨fun i hi q hq => ?_, hf⟩
  have hi' : i < d.size := by simpa using hi
  have hc := (h.cell hi' hq).1
  rw [Nat.zero_add] at hc
  rw [hc]
  have e : d.toList.getD i default = d[i]! := by
    rw [getElem!_pos d i hi']
    simp [List.getD, List.getElem?_eq_getElem hi]
  rw [e]
  have : q < (cs d[i]!).length := by rw [hk]; exact hq
  rw [List.getElem?_eq_getElem this, getElem!_pos (cs d[i]!) q this]
/-- What a sort by IDs leaves. -/
theorem perm_of {α : Type} [Inhabited α] {L : List α} {d : Array α} (h : PermIn 0 L.toArray.size L.toArray d) : d.toList.Perm L := by
  obtain ⟨h1, _, h3⟩ := h
  rw [← h1] at h3
  simp only [Array.extract_size] at h3
  rw [h1] at h3
  simpa using h3
theorem lt_by {α : Type} (f : α → Int) (x y : α) : ltOf (fun x y : α => Lib.compareInt (f x) (f y)) x y = decide (f x < f y) := by
  unfold ltOf Lib.compareInt
  by_cases h1 : f x < f y
  · simp [h1]
  · by_cases h2 : f y < f x <;> simp [h1, h2]
theorem pair_of {α : Type} [Inhabited α] {f : α → Int} {d : Array α} {n : Nat} (hn : n = d.size) (h : SortedIn (ltOf fun x y : α => Lib.compareInt (f x) (f y)) 0 n d) : d.toList.Pairwise (fun x y => f x ≤ f y) := by
  rw [List.pairwise_iff_getElem]
  intro i j hi hj hij
  have hi' : i < d.size := by simpa using hi
  have hj' : j < d.size := by simpa using hj
  have := h i j (Nat.zero_le _) hij (by omega)
  rw [getElem!_pos d i hi', getElem!_pos d j hj'] at this
  rw [lt_by, decide_eq_false_iff_not] at this
  simp only [Array.getElem_toList]
  omega
theorem swo_by {α : Type} (f : α → Int) : SWO (ltOf fun x y : α => Lib.compareInt (f x) (f y)) where
  irrefl x := by rw [lt_by]; simp
  trans x y z h1 h2 := by rw [lt_by] at *; simp at *; omega
  ntrans x y z h1 h2 := by rw [lt_by] at *; simp at *; omega

set_option maxHeartbeats 1000000 in
theorem cloN (x y : ND) (W : World) : Calls Tryd.prog 50 #[.agg #[.int .i64 x.id, .string x.lab, .slice x.p x.l x.c], .agg #[.int .i64 y.id, .string y.lab, .slice y.p y.l y.c]] W fun e w' => e = .returned (.int .i64 (Lib.compareInt x.id y.id)) ∧ ∃ q os', w' = grow (W.drewN q) os' := by
  have hcon := fun W' => cmp_any x.id y.id W'
  generalize Lib.compareInt x.id y.id = r at hcon ⊢
  go_enter Tryd.func50, Tryd.ntmps50
  go_wp2_with (go_at_call 51; refine (hcon _).mono ?_; rintro e w' ⟨rfl, rfl⟩)
  go_ret
  exact ⟨rfl, 0, _, by rw [alloc_eq_grow, alloc_eq_grow, grow_grow]; rfl⟩
/-- Nodes by rising IDs. -/
theorem sortN (g cap : Nat) (L : List ND) (w : World) (hO : OR w g 3 cellsN L) (hg : g < w.heap.size) (hsz : L.length < 4611686018427387904) :
    Calls Tryd.prog 49 #[.slice (some ⟨g, 0, none⟩) L.length cap, .func (.func 50) #[] #[]] w fun e w' => e = .returned (.tuple #[]) ∧ ∃ S : List ND, S.Perm L ∧ S.Pairwise (fun x y => x.id ≤ y.id) ∧ OR w' g 3 cellsN S ∧ Only (fun k => k = g) w w' := by
  have eg : ∀ args w, (callFunc 50 args).run Tryd.prog w = .ok (.enter 50 args) w := enters_of Tryd.func50 (by kernel_rfl) rfl
  have hH := hO.holds (fun _ => rfl) (by decide)
  have hcon := AnyQ.slices_SortFunc Tryd.sortNd 3 Tryd.isAgg44 Tryd.sizeOf44 cellsN (fun _ => rfl) oneN (fun x y => Lib.compareInt x.id y.id) (swo_by (fun x : ND => x.id)) 50 #[] g 0 cap L.toArray w eg (fun _ _ _ _ x y => cloN x y _) hH hg (by simpa using hsz)
  change Calls Tryd.prog 49 _ _ _ at hcon
  simp only [List.size_toArray] at hcon
  refine hcon.mono ?_
  rintro e w' ⟨rfl, d, n, os, hp, hs, rfl⟩
  have hsize : d.size = L.toArray.size := hp.1
  refine ⟨rfl, d.toList, perm_of (by simpa using hp), pair_of (f := fun x : ND => x.id) (n := L.length) (by simpa using hsize.symm) hs, OR.of_holds (holdsK_sortWorldK_c cellsN 3 w g 0 L.toArray d n os hH hg hsize) (fun _ => rfl) (fun j => by rw [sort_froze _ _ _ _ _ _ _ hg]; exact hO.fr j), sort_only _ _ _ _ _ _ _⟩
theorem sortN_nil (w : World) : Calls Tryd.prog 49 #[.slice none 0 0, .func (.func 50) #[] #[]] w fun e w' => e = .returned (.tuple #[]) ∧ w' = w :=
  AnyF.slices_SortFunc_none Tryd.sortNd none 0 _ w

set_option maxHeartbeats 1000000 in
theorem cloE (x y : ED) (W : World) : Calls Tryd.prog 55 #[.agg #[.int .i64 x.id, .string x.lab, .int .i64 x.fr, .int .i64 x.tt, .slice x.p x.l x.c], .agg #[.int .i64 y.id, .string y.lab, .int .i64 y.fr, .int .i64 y.tt, .slice y.p y.l y.c]] W fun e w' => e = .returned (.int .i64 (Lib.compareInt x.id y.id)) ∧ ∃ q os', w' = grow (W.drewN q) os' := by
  have hcon := fun W' => cmp_any x.id y.id W'
  generalize Lib.compareInt x.id y.id = r at hcon ⊢
  go_enter Tryd.func55, Tryd.ntmps55
  go_wp2_with (go_at_call 51; refine (hcon _).mono ?_; rintro e w' ⟨rfl, rfl⟩)
  go_ret
  exact ⟨rfl, 0, _, by rw [alloc_eq_grow, alloc_eq_grow, grow_grow]; rfl⟩
/-- Edges by rising IDs. -/
theorem sortE (g cap : Nat) (L : List ED) (w : World) (hO : OR w g 5 cellsE L) (hg : g < w.heap.size) (hsz : L.length < 4611686018427387904) :
    Calls Tryd.prog 54 #[.slice (some ⟨g, 0, none⟩) L.length cap, .func (.func 55) #[] #[]] w fun e w' => e = .returned (.tuple #[]) ∧ ∃ S : List ED, S.Perm L ∧ S.Pairwise (fun x y => x.id ≤ y.id) ∧ OR w' g 5 cellsE S ∧ Only (fun k => k = g) w w' := by
  have eg : ∀ args w, (callFunc 55 args).run Tryd.prog w = .ok (.enter 55 args) w := enters_of Tryd.func55 (by kernel_rfl) rfl
  have hH := hO.holds (fun _ => rfl) (by decide)
  have hcon := AnyQ.slices_SortFunc Tryd.sortEd 5 Tryd.isAgg46 Tryd.sizeOf46 cellsE (fun _ => rfl) oneE (fun x y => Lib.compareInt x.id y.id) (swo_by (fun x : ED => x.id)) 55 #[] g 0 cap L.toArray w eg (fun _ _ _ _ x y => cloE x y _) hH hg (by simpa using hsz)
  change Calls Tryd.prog 54 _ _ _ at hcon
  simp only [List.size_toArray] at hcon
  refine hcon.mono ?_
  rintro e w' ⟨rfl, d, n, os, hp, hs, rfl⟩
  have hsize : d.size = L.toArray.size := hp.1
  refine ⟨rfl, d.toList, perm_of (by simpa using hp), pair_of (f := fun x : ED => x.id) (n := L.length) (by simpa using hsize.symm) hs, OR.of_holds (holdsK_sortWorldK_c cellsE 5 w g 0 L.toArray d n os hH hg hsize) (fun _ => rfl) (fun j => by rw [sort_froze _ _ _ _ _ _ _ hg]; exact hO.fr j), sort_only _ _ _ _ _ _ _⟩
theorem sortE_nil (w : World) : Calls Tryd.prog 54 #[.slice none 0 0, .func (.func 55) #[] #[]] w fun e w' => e = .returned (.tuple #[]) ∧ w' = w :=
  AnyF.slices_SortFunc_none Tryd.sortEd none 0 _ w
end Go.Proofs.YtmioohbailhppaaDoor
