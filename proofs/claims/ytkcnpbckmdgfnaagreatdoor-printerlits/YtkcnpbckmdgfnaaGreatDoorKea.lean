/-
  Key of the program: the key that a text is.
  A word in a block of its own; what the readers of words answer.
-/
import Derived.Test.YtkcnpbckmdgfnaaGreatDoorNma
import Derived.Laws.Rows
namespace Go.Proofs.YtkcnpbckmdgfnaaGreatDoor
open Go.RowKit
set_option linter.unusedSimpArgs false
set_option linter.unusedVariables false

theorem great_gives (w : World) : MapAtRunes Tryz.prog 156 #[] upR w := fun W x hx _ => by
  refine (great_any x (by omega) (by omega) W).mono ?_
  rintro e w' ⟨rfl, rfl⟩
  exact ⟨rfl, 0, rfl⟩
theorem upR_range (x : Nat) (h : x ≤ 1114111) : 0 ≤ upR x ∧ upR x ≤ 2147483647 := by
  unfold upR
  split <;> omega
set_option maxRecDepth 100000 in
theorem inGreat_any (s : ByteArray) (hs : s.size < 35184372088832) (w : World) (hT : Tabs w) : Calls Tryz.prog 131 #[.string s] w fun e w' => e = .returned (.string (txt (Lib.mapD upR s.data.toList))) ∧ Below w.heap.size w w' := by
  have hM := Tryz.strings_Map_runes 156 #[] (enters_of Tryz.func156 (by kernel_rfl) rfl) upR s w hs (great_gives w) upR_range hT.u8
  replace hM : Hid _ := hM
  go_enter Tryz.func131, Tryz.ntmps131
  go_wp2_with (go_at_call 155; refine Calls.mono hM.out ?_; rintro e w1 ⟨rfl, hb1⟩)
  go_returns
  exact ⟨rfl, hb1⟩
set_option maxRecDepth 100000 in
theorem index_keys (k : Nat) (hk : k < 23) (w : World) : (Instr.index 175 (.agg (rowT keysL)) (.int .i64 k)).run Tryz.prog w = .ok (.string (txt (keysL.getD k []))) w := by
  rcases (show k = 0 ∨ k = 1 ∨ k = 2 ∨ k = 3 ∨ k = 4 ∨ k = 5 ∨ k = 6 ∨ k = 7 ∨ k = 8 ∨ k = 9 ∨ k = 10 ∨ k = 11 ∨ k = 12 ∨ k = 13 ∨ k = 14 ∨ k = 15 ∨ k = 16 ∨ k = 17 ∨ k = 18 ∨ k = 19 ∨ k = 20 ∨ k = 21 ∨ k = 22 by omega) with rfl | rfl | rfl | rfl | rfl | rfl | rfl | rfl | rfl | rfl | rfl | rfl | rfl | rfl | rfl | rfl | rfl | rfl | rfl | rfl | rfl | rfl | rfl
  all_goals kernel_rfl
theorem txt_inj {a b : List UInt8} (h : txt a = txt b) : a = b := by
  have := congrArg (fun s : ByteArray => s.data.toList) h
  simpa [txt] using this
theorem same_texts {a b : ByteArray} : (a.toList == b.toList) = decide (a = b) := by
  rw [Bool.eq_iff_iff, beq_iff_eq, decide_eq_true_eq]
  constructor
  · intro h
    rw [ByteArray.toList_eq, ByteArray.toList_eq] at h
    cases a; cases b
    congr
    exact Array.toList_inj.1 h
  · rintro rfl; rfl
theorem key_hit (l k : List UInt8) (hk : k ∈ keysL) (h : Lib.mapD upR l = k) : keyL l = k := by
  have e := (key_either l k hk).1 h
  unfold keyL
  rw [if_pos (List.any_eq_true.2 ⟨k, hk, decide_eq_true e⟩), e]
theorem key_miss (l : List UInt8) (h : ∀ k, k < 23 → Lib.mapD upR l ≠ keysL.getD k []) : keyL l = [] := by
  unfold keyL
  rw [if_neg]
  intro ha
  obtain ⟨k, hk, e⟩ := List.any_eq_true.1 ha
  obtain ⟨i, hi, rfl⟩ := List.getElem_of_mem hk
  have := h i (by simpa [keysL] using hi)
  rw [show keysL.getD i [] = keysL[i] by simp [List.getD, hi]] at this
  exact this ((key_either l _ hk).2 (of_decide_eq_true e))
set_option maxRecDepth 100000 in
theorem Key_any (s : ByteArray) (hs : s.size < 35184372088832) (w : World) (hT : Tabs w) : Calls Tryz.prog 104 #[.string s] w fun e w' => e = .returned (.string (txt (keyL s.data.toList))) ∧ Below w.heap.size w w' := by
  have hG := inGreat_any s hs w hT
  have hH := key_hit s.data.toList
  have hM := key_miss s.data.toList
  generalize Lib.mapD upR s.data.toList = G at hG hH hM
  generalize keyL s.data.toList = R at hH hM ⊢
  replace hG : Hid _ := hG
  replace hH : Hid _ := hH
  replace hM : Hid _ := hM
  go_enter Tryz.func104, Tryz.ntmps104
  go_wp2_with (first
    | (go_at_call 131; refine Calls.mono hG.out ?_; rintro e w1 ⟨rfl, hb1⟩; have hT1 := hT.below hb1; obtain ⟨t0, fr0, hk0⟩ := hT1.keys; replace hk0 : Hid _ := hk0)
    | (refine wpList_load_row rfl 175 _ rfl 1 rfl _ _ _ _ hk0.out Tryz.underlying175 rfl (by kernel_rfl) ?_))
  go_loop [9] (fun i => ∃ k : Nat, k ≤ 23 ∧ i = .int .i64 k ∧ ∀ j, j < k → G ≠ keysL.getD j []) (fun i => 23 - (intOf i).toNat)
  case atStart => exact ⟨0, by omega, rfl, fun j hj => by omega⟩
  case round =>
    obtain ⟨k, hk, rfl, hz⟩ := hrel
    replace hz : Hid _ := hz
    by_cases hlt : k < 23
    · have hix := index_keys k hlt
      have hmem : keysL.getD k [] ∈ keysL := by
        have hl : k < keysL.length := hlt
        rw [show keysL.getD k [] = keysL[k] by simp [List.getD, hl]]
        exact List.getElem_mem _
      generalize hKd : keysL.getD k [] = Kd at hix hmem
      replace hKd : Hid _ := hKd
      replace hmem : Hid _ := hmem
      have hq := same_texts (a := txt G) (b := txt Kd)
      by_cases he : G = Kd
      · rw [he] at hq
        rw [decide_eq_true rfl] at hq
        have hR := hH.out Kd hmem.out he
        rw [← hR] at hq
        subst hR
        subst he
        go_wp2_with fail
        go_returns
        exact ⟨rfl, hb1⟩
      · rw [decide_eq_false (fun e => he (txt_inj e))] at hq
        replace he : Hid _ := he
        go_wp2_with fail
        go_round
        case rel => exact ⟨k + 1, by omega, by go_num, fun j hj => by
          by_cases e : j = k
          · subst e; rw [hKd.out]; exact he.out
          · exact hz.out j (by omega)⟩
        case measure => simp [intOf]; omega
    · have hR := hM.out (fun j hj => hz.out j (by omega))
      subst hR
      go_wp2_with fail
      go_returns
      exact ⟨rfl, hb1⟩
end Go.Proofs.YtkcnpbckmdgfnaaGreatDoor
namespace Go.Proofs.YtkcnpbckmdgfnaaGreatDoor
open Go.ChangeShapes Go.WideShapes Go.ChangeAt Go.RowKit
set_option linter.unusedSimpArgs false
set_option linter.unusedVariables false

def tokV (k : Int) (t : ByteArray) (n a : Int) : Value := .agg #[.int .i64 k, .string t, .int .i64 n, .int .i64 a]
/-- What the readers of words answer. -/
def resV (x : Wd) : Value := .tuple #[tokV x.k (txt x.t) x.n 0, .int .i64 x.len, .int .i64 x.e]
theorem extract_take (s : ByteArray) (n : Nat) : (s.extract 0 n).data.toList = s.data.toList.take n := by
  rw [Lib.extract_data]
  simp

/-- A word's four fields in a block of its own. -/
structure BoxAt (w : World) (x : Nat) (k : Int) (t : ByteArray) (n a : Int) : Prop where
  c0 : w.cell? ⟨x, 0, none⟩ = some (.int .i64 k)
  c1 : w.cell? ⟨x, 1, none⟩ = some (.string t)
  c2 : w.cell? ⟨x, 2, none⟩ = some (.int .i64 n)
  c3 : w.cell? ⟨x, 3, none⟩ = some (.int .i64 a)
  fr : ∀ j, w.frozen? ⟨x, j, none⟩ = false
theorem BoxAt.new (w : World) (k : Int) (t : ByteArray) (n a : Int) {x : Nat} (hx : x = w.heap.size) : BoxAt (w.alloc (.cells #[.int .i64 k, .string t, .int .i64 n, .int .i64 a] 147)) x k t n a := by
  subst hx
  constructor <;> (simp only [World.cell?, World.frozen?, heap_alloc_new]; simp)
theorem BoxAt.lt {w : World} {x : Nat} {k : Int} {t : ByteArray} {n a : Int} (h : BoxAt w x k t n a) : x < w.heap.size := World.block_lt_of_cell? w _ h.c0
theorem BoxAt.below {w w' : World} {x : Nat} {k : Int} {t : ByteArray} {n a : Int} (h : BoxAt w x k t n a) (hb : Below w.heap.size w w') : BoxAt w' x k t n a :=
  ⟨(hb.cell h.lt).trans h.c0, (hb.cell h.lt).trans h.c1, (hb.cell h.lt).trans h.c2, (hb.cell h.lt).trans h.c3, fun j => (hb.frozen h.lt).trans (h.fr j)⟩
theorem BoxAt.alloc {w : World} {x : Nat} {k : Int} {t : ByteArray} {n a : Int} (h : BoxAt w x k t n a) (o : Obj) : BoxAt (w.alloc o) x k t n a :=
  h.below ((Below.refl _ _).alloc (Nat.le_refl _) o)
theorem BoxAt.put {w : World} {x : Nat} {k : Int} {t : ByteArray} {n a : Int} (h : BoxAt w x k t n a) (k' : Int) (t' : ByteArray) (n' a' : Int) :
    BoxAt ((((w.setCell ⟨x, 0, none⟩ (.int .i64 k')).setCell ⟨x, 1, none⟩ (.string t')).setCell ⟨x, 2, none⟩ (.int .i64 n')).setCell ⟨x, 3, none⟩ (.int .i64 a')) x k' t' n' a' := by
  obtain ⟨c0, c1, c2, c3, fr⟩ := h
  constructor
  · go_cell
  · go_cell
  · go_cell
  · go_cell
  · intro j
    simpa using fr j
theorem results_tok {fn : Func} {q q1 q2 : Tmp} (h : fn.results = #[.cell q 147, .tmp q1, .tmp q2]) (tmps : Array Value) {w : World} {x : Nat} {k : Int} {t : ByteArray} {n a : Int} {v1 v2 : Value}
    (hq : tmps.getD q undef = .pointer (some ⟨x, 0, none⟩)) (h1 : tmps.getD q1 undef = v1) (h2 : tmps.getD q2 undef = v2) (hb : BoxAt w x k t n a) :
    (results fn tmps).run Tryz.prog w = .ok (.tuple #[tokV k t n a, v1, v2]) w := by
  obtain ⟨c0, c1, c2, c3, fr⟩ := hb
  have hq' : tmps[q]?.getD undef = .pointer (some ⟨x, 0, none⟩) := by simpa using hq
  have h1' : tmps[q1]?.getD undef = v1 := by simpa using h1
  have h2' : tmps[q2]?.getD undef = v2 := by simpa using h2
  simp [results, h, hq', h1', h2', go_sem, c0, c1, c2, c3, tokV]
end Go.Proofs.YtkcnpbckmdgfnaaGreatDoor
