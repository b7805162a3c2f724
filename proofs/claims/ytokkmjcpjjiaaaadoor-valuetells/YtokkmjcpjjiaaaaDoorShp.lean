/-
  How numbers, nodes, edges and paths are written: the program's.
-/
import Derived.Test.YtokkmjcpjjiaaaaDoorZSht
import Derived.Test.YtokkmjcpjjiaaaaDoorZRqu
import Derived.Test.YtokkmjcpjjiaaaaDoorTbs
import Derived.Test.YtokkmjcpjjiaaaaDoorRrt
import Derived.Lib.ItoaLen
import Derived.Lib.AppendIntMem
import Derived.Laws.Concat
import Derived.Maps.AppendAt
namespace Go.Proofs.YtokkmjcpjjiaaaaDoor
open Go.ChangeShapes Go.WideShapes Go.ChangeAt Go.RowKit
open S9 (txt quoL info_parts below_row)
set_option linter.unusedSimpArgs false
set_option linter.unusedVariables false

theorem own_row {w w' : World} {base : Nat} {v : Value} {n : Nat} {xs : List Value} {e : TypeId} {k : Nat} (h : w.ownsRow base e k v n xs) (hb : Below w.heap.size w w') : w'.ownsRow base e k v n xs := by
  obtain ⟨h1, h2 | ⟨g, cap, cur, e1, e2, e3, e4⟩⟩ := h
  · exact ⟨h1, .inl h2⟩
  · exact ⟨h1, .inr ⟨g, cap, cur, e1, e2, (hb.block g (Array.getElem?_eq_some_iff.1 e3).1).trans e3, e4⟩⟩
theorem txt_list (l : List UInt8) : (txt l).data.toList = l := by simp [txt]
theorem txt_size (l : List UInt8) : (txt l).size = l.length := by simp [txt, ByteArray.size]
def wN (n : Int) : List UInt8 := 35 :: Lib.itoa n
def wE (n : Int) : List UInt8 := 64 :: Lib.itoa n
def edgesT (r : List Int) : List UInt8 := (r.map fun n => 32 :: wE n).flatten
/-- How a path is written. -/
def pathT : List Int → List UInt8
  | [] => []
  | n :: r => 60 :: (wN n ++ (edgesT r ++ [62]))
def words (n : Int) (r : List Int) : List (List UInt8) := wN n :: r.map wE
def rowS (L : List (List UInt8)) : List Value := L.map fun x => .string (txt x)
theorem words_snoc (n : Int) (r : List Int) (m : Int) : words n (r ++ [m]) = words n r ++ [wE m] := by simp [words]
theorem edges_snoc (r : List Int) (m : Int) : edgesT (r ++ [m]) = edgesT r ++ (32 :: wE m) := by simp [edgesT]
theorem join_words (n : Int) (r : List Int) : Lib.join (words n r) [32] = wN n ++ edgesT r := by
  unfold words
  rw [Lib.join_cons]
  unfold Lib.joinTail edgesT
  rw [List.map_map]
  rfl
theorem id_bound {n : Int} (h : idB n = true) : -9223372036854775808 ≤ n ∧ n ≤ 9223372036854775807 := by
  unfold idB at h
  simp only [Bool.and_eq_true, decide_eq_true_eq] at h
  omega
theorem itoa_le {n : Int} (h : -9223372036854775808 ≤ n ∧ n ≤ 9223372036854775807) : (Lib.itoa n).length ≤ 21 := Lib.itoa_length_le n h.1 h.2
theorem edges_le : ∀ r : List Int, (∀ n ∈ r, idB n = true) → (edgesT r).length ≤ 23 * r.length
  | [], _ => Nat.le_refl _
  | n :: r, h => by
    have h1 := itoa_le (id_bound (h n (by simp)))
    have h2 := edges_le r fun m hm => h m (by simp [hm])
    have e : edgesT (n :: r) = (32 :: wE n) ++ edgesT r := rfl
    rw [e, List.length_append]
    unfold wE
    simp only [List.length_cons]
    omega
theorem txt_app (a b : List UInt8) : txt a ++ txt b = txt (a ++ b) := by
  apply ByteArray.ext
  simp [txt]
theorem add_txt (a b : List UInt8) (h : a.length + b.length ≤ 1000000) (W : World) : (Op.stringOp .add (txt a) (txt b)).run Tryd.prog W = .ok (.string (txt (a ++ b))) W := by
  rw [← txt_app]
  apply run_string_add_sum
  rw [txt_size, txt_size]
  omega
/-- The table of powers. -/
structure P10 (w : World) : Prop where
  tab : Lib.TabIs Tryd.prog w "internal/strconv.uint64pow10" .u64 Lib.pow10Tab
  sz : 4 ≤ w.heap.size
theorem p10_named : Tryd.prog.globalNamed "internal/strconv.uint64pow10" = some 3 := by kernel_rfl
theorem P10.below {w w' : World} (h : P10 w) (hb : Below w.heap.size w w') : P10 w' := by
  have hz := h.sz
  refine ⟨?_, Nat.le_trans hz hb.size⟩
  have hp := h.tab
  unfold Lib.TabIs World.var? at hp ⊢
  rw [p10_named] at hp ⊢
  simp only [Option.bind_some] at hp ⊢
  rw [hb.block 3 (by omega)]
  exact hp
theorem fmt_any (n : Int) (hn : -9223372036854775808 ≤ n ∧ n ≤ 9223372036854775807) (w : World) (hT : P10 w) :
    Calls Tryd.prog 43 #[.int .i64 n, .int .i64 10] w fun e w' => e = .returned (.string (txt (Lib.itoa n))) ∧ Below w.heap.size w w' := by
  refine (Tryd.strconv_FormatInt_10 n hn.1 hn.2 w hT.tab).mono ?_
  rintro e w' ⟨rfl, k, os, rfl⟩
  exact ⟨rfl, Lib.below_grow _ w (Nat.le_refl _) k os⟩
set_option maxRecDepth 100000 in
theorem node_any (n : Int) (hn : -9223372036854775808 ≤ n ∧ n ≤ 9223372036854775807) (w : World) (hT : P10 w) :
    Calls Tryd.prog 45 #[.int .i64 n] w fun e w' => e = .returned (.string (txt (wN n))) ∧ Below w.heap.size w w' := by
  have hF := fun (_ : Unit) => fmt_any n hn w hT
  have hl := itoa_le hn
  have u1 : ∀ W, (Op.stringOp .add (⟨#[35]⟩ : ByteArray) (txt (Lib.itoa n))).run Tryd.prog W = .ok (.string (txt (wN n))) W := fun W => add_txt [35] (Lib.itoa n) (by simp; omega) W
  generalize txt (Lib.itoa n) = X at *
  generalize txt (wN n) = Y at *
  replace hF : Hid _ := hF
  go_enter Tryd.func45, Tryd.ntmps45
  go_wp2_with (go_at_call 43; refine Calls.mono (hF.out ()) ?_; rintro e w1 ⟨rfl, hb1⟩)
  go_returns
  exact ⟨rfl, hb1⟩
set_option maxRecDepth 100000 in
theorem edge_any (n : Int) (hn : -9223372036854775808 ≤ n ∧ n ≤ 9223372036854775807) (w : World) (hT : P10 w) :
    Calls Tryd.prog 46 #[.int .i64 n] w fun e w' => e = .returned (.string (txt (wE n))) ∧ Below w.heap.size w w' := by
  have hF := fun (_ : Unit) => fmt_any n hn w hT
  have hl := itoa_le hn
  have u1 : ∀ W, (Op.stringOp .add (⟨#[64]⟩ : ByteArray) (txt (Lib.itoa n))).run Tryd.prog W = .ok (.string (txt (wE n))) W := fun W => add_txt [64] (Lib.itoa n) (by simp; omega) W
  generalize txt (Lib.itoa n) = X at *
  generalize txt (wE n) = Y at *
  replace hF : Hid _ := hF
  go_enter Tryd.func46, Tryd.ntmps46
  go_wp2_with (go_at_call 43; refine Calls.mono (hF.out ()) ?_; rintro e w1 ⟨rfl, hb1⟩)
  go_returns
  exact ⟨rfl, hb1⟩
theorem infoS : (Tryd.prog.info? 9).map (fun i => (i.zero, i.size, i.bytes)) = some (some (.string ⟨#[]⟩), 1, 16) := by kernel_rfl
set_option maxRecDepth 100000 in
set_option maxHeartbeats 2000000 in
theorem showPath_any (n : Int) (r : List Int) (p : Option Addr) (c : Nat) (w : World) (h9 : r.length ≤ 8) (hc : r.length ≤ c) (q : PathAt w p (n :: r)) (hid : ∀ m ∈ n :: r, idB m = true) (hT : P10 w) :
    Calls Tryd.prog 47 #[.slice p (r.length + 1) (c + 1)] w fun e w' => e = .returned (.string (txt (pathT (n :: r)))) ∧ Below w.heap.size w w' := by
  obtain ⟨pb, off, rfl, c0⟩ := q.num 0 (by simp)
  have cks : ∀ k (h : k < r.length) (W : World), Below w.heap.size w W → W.cell? ⟨pb, off + 1 + k, none⟩ = some (.int .i64 r[k]) := fun k h W hb => by
    obtain ⟨pb', off', e, ck⟩ := q.num (k + 1) (by simpa using h)
    cases e
    have e2 : (n :: r).getD (k + 1) 0 = r[k] := by simp [List.getD, List.getElem?_eq_getElem h]
    rw [e2, show off + (k + 1) = off + 1 + k by omega] at ck
    exact (hb.cell (World.block_lt_of_cell? w _ ck)).trans ck
  have c0' : w.cell? ⟨pb, off, none⟩ = some (.int .i64 n) := by simpa using c0
  clear c0
  have hN := fun (_ : Unit) => node_any n (id_bound (hid n (by simp))) w hT
  have hE := fun (k : Nat) (h : k < r.length) (W : World) (hb : Below w.heap.size w W) => edge_any r[k] (id_bound (hid _ (by simp))) W (hT.below hb)
  have hel := edges_le r fun m hm => hid m (by simp [hm])
  have hil := itoa_le (id_bound (hid n (by simp)))
  obtain ⟨i0, hi0, hz0, hz1, hz2⟩ := info_parts infoS
  replace hi0 : Hid _ := hi0
  replace hz0 : Hid _ := hz0
  replace hz1 : Hid _ := hz1
  replace hz2 : Hid _ := hz2
  replace cks : Hid _ := cks
  replace hE : Hid _ := hE
  replace hN : Hid _ := hN
  clear hT hid q
  by_cases hcz : c = 0
  all_goals
    first | subst hcz | skip
    go_enter Tryd.func47, Tryd.ntmps47
    go_wp2_with (go_at_call 45; refine Calls.mono (hN.out ()) ?_; rintro e w1 ⟨rfl, hb1⟩)
    have ho0 : (w1.alloc (.cells #[.string (txt (wN n))] 9)).ownsRow w.heap.size 9 1 (.slice (some ⟨w1.heap.size, 0, none⟩) 1 1) 1 (rowS (words n [])) :=
      ⟨rfl, .inr ⟨w1.heap.size, 1, #[.string (txt (wN n))], rfl, hb1.size, heap_alloc_new _ _, Nat.le_refl _, by unfold maxLen; omega, rfl, rfl⟩⟩
    have hb0 := below_on hb1 (below_new w1 (.cells #[.string (txt (wN n))] 9))
    replace ho0 : Hid _ := ho0
    replace hb0 : Hid _ := hb0
    go_loopw [3, 5, 14] (fun v _ i wr => ∃ k : Nat, k ≤ r.length ∧ i = .int .i64 k ∧ wr.ownsRow w.heap.size 9 1 v (k + 1) (rowS (words n (r.take k))) ∧ Below w.heap.size w wr) (fun _ _ i _ => r.length - (intOf i).toNat)
    case atStart => exact ⟨0, by omega, rfl, ho0.out, hb0.out⟩
    case round =>
      obtain ⟨k, hk, rfl, ho, hb⟩ := hrel
      by_cases hlt : k < r.length
      · have ck := cks.out k hlt _ hb
        have hE' := fun (_ : Unit) => hE.out k hlt _ hb
        have hws : rowS (words n (r.take (k + 1))) = rowS (words n (r.take k)) ++ [.string (txt (wE r[k]))] := by
          rw [List.take_succ_eq_append_getElem hlt, words_snoc]
          simp [rowS]
        generalize rowS (words n (r.take k)) = L at *
        generalize txt (wE r[k]) = X at *
        replace hws : Hid _ := hws
        replace hE' : Hid _ := hE'
        replace hb : Hid _ := hb
        replace ho : Hid _ := ho
        go_wp2_with (first
          | (at_builtin; refine wpList_append_own_at _ rfl _ _ 83 rfl w.heap.size 9 i0 _ 1 16 Tryd.underlying83 hi0.out hz0.out hz1.out hz2.out rfl (by decide) _ _ _ rfl ((own_row ho.out hb2).alloc _) ⟨w2.heap.size, 0, none⟩ 1 1 [.string X] rfl rfl (cell_one_new _ _ _) (by simp [Value.oneCell']) (by unfold maxLen; omega) (by omega) (by have := hb.out.size; have := hb2.size; simp; omega) ?_; intro v5 w5 ho5 hg5 hnil5 hloc5)
          | (go_at_call 46; refine Calls.mono (hE'.out ()) ?_; rintro e w2 ⟨rfl, hb2⟩))
        all_goals exact ⟨⟨k + 1, by omega, rfl, by rw [hws.out]; exact ho5, below_row (below_on (below_on hb.out hb2) (below_new _ _)) hg5 ((own_row ho.out hb2).alloc _) (Nat.le_refl _)⟩, by show r.length - ((k : Int) + 1).toNat < r.length - (k : Int).toNat; omega⟩
      · have hk2 : k = r.length := by omega
        subst hk2
        rw [List.take_length] at ho
        obtain ⟨hll, ⟨_, h0⟩ | ⟨g, cap, cur, rfl, hge, hblk, hncap, hcapm, hcsz, htake⟩⟩ := ho
        · omega
        have hwl : (words n r).length = r.length + 1 := by simp [words]
        have hj : ∀ {wr : World}, wr.heap[g]? = some (.cells cur 9 (0, 0)) → g < wr.heap.size → Calls Tryd.prog 70 #[.slice (some ⟨g, 0, none⟩) (r.length + 1) cap, .string ⟨#[32]⟩] wr fun e w' => e = .returned (.string (txt (wN n ++ edgesT r))) ∧ Below wr.heap.size wr w' := fun {wr} hblk hlt => by
          have hcells : ∀ (j : Nat) (x : ByteArray), ((words n r).map txt)[j]? = some x → wr.cell? ⟨g, 0 + j, none⟩ = some (.string x) := fun j x hx => by
            rw [Nat.zero_add]
            have hjl : j < r.length + 1 := by
              have := (List.getElem?_eq_some_iff.1 hx).1
              simpa [hwl] using this
            have e1 : wr.cell? ⟨g, j, none⟩ = cur[j]? := by simp [World.cell?, hblk]
            have e2 : (cur.toList.take ((r.length + 1) * 1))[j]? = cur[j]? := by rw [List.getElem?_take_of_lt (by omega)]; simp
            rw [e1, ← e2, htake]
            unfold rowS
            rw [List.getElem?_map] at hx ⊢
            cases hq : (words n r)[j]? with
            | none => rw [hq] at hx; cases hx
            | some y => rw [hq] at hx; cases hx; rfl
          have hmm : ((words n r).map txt).map (·.data.toList) = words n r := by
            rw [List.map_map]
            conv => rhs; rw [← List.map_id (words n r)]
            exact List.map_congr_left fun x _ => txt_list x
          have e32 : (⟨#[32]⟩ : ByteArray).data.toList = [32] := rfl
          have h := Tryd.strings_Join g 0 cap ((words n r).map txt) ⟨#[32]⟩ wr hcells hlt (by rw [List.length_map, hwl]; omega) (by rw [List.length_map, hwl]; exact hncap) (by
            rw [hmm, e32, join_words, List.length_append]
            unfold wN
            simp only [List.length_cons]
            omega)
          rw [hmm, e32, join_words, List.length_map, hwl] at h
          exact h
        have hJ := fun (_ : Unit) => hj hblk (Array.getElem?_eq_some_iff.1 hblk).1
        have u1 : ∀ W, (Op.stringOp .add (⟨#[60]⟩ : ByteArray) (txt (wN n ++ edgesT r))).run Tryd.prog W = .ok (.string (txt (60 :: (wN n ++ edgesT r)))) W := fun W => add_txt [60] _ (by rw [List.length_append]; unfold wN; simp only [List.length_cons, List.length_nil]; omega) W
        have u2 : ∀ W, (Op.stringOp .add (txt (60 :: (wN n ++ edgesT r))) (⟨#[62]⟩ : ByteArray)).run Tryd.prog W = .ok (.string (txt (pathT (n :: r)))) W := fun W => by
          have := add_txt (60 :: (wN n ++ edgesT r)) [62] (by simp only [List.length_append, List.length_cons, List.length_nil]; unfold wN; simp only [List.length_cons]; omega) W
          have e : 60 :: (wN n ++ edgesT r) ++ [62] = pathT (n :: r) := by simp [pathT]
          rw [e] at this
          exact this
        generalize txt (wN n ++ edgesT r) = X1 at *
        generalize txt (60 :: (wN n ++ edgesT r)) = X2 at *
        replace hJ : Hid _ := hJ
        replace hb : Hid _ := hb
        clear hj
        go_wp2_with (go_at_call 70; refine Calls.mono (hJ.out ()) ?_; rintro e w2 ⟨rfl, hb2⟩)
        go_returns
        exact ⟨rfl, below_on hb.out hb2⟩
end Go.Proofs.YtokkmjcpjjiaaaaDoor
