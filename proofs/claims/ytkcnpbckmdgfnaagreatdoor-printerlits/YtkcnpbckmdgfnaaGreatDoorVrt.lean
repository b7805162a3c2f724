/-
  Whether a thing is a value: Right of the program.
-/
import Derived.Test.YtkcnpbckmdgfnaaGreatDoorVal
import Derived.LoopTactic
namespace Go.Proofs.YtkcnpbckmdgfnaaGreatDoor.V2
open Go.ChangeShapes Go.WideShapes Go.ChangeAt Go.RowKit
set_option linter.unusedSimpArgs false
set_option linter.unusedVariables false

/-! Pth -/

/-- The numbers of a path that came in. -/
def PathAt (w : World) (a : Option Addr) (zs : List Int) : Prop := zs = [] ∨ ∃ b off, a = some ⟨b, off, none⟩ ∧ ∀ i, i < zs.length → w.cell? ⟨b, off + i, none⟩ = some (.int .i64 (zs.getD i 0))
theorem PathAt.below {w w' : World} {a : Option Addr} {zs : List Int} (h : PathAt w a zs) (hb : Below w.heap.size w w') : PathAt w' a zs := by
  rcases h with h | ⟨b, off, e, h⟩
  · exact .inl h
  · exact .inr ⟨b, off, e, fun i hi => (hb.cell (World.block_lt_of_cell? w _ (h i hi))).trans (h i hi)⟩
theorem PathAt.alloc {w : World} {a : Option Addr} {zs : List Int} (h : PathAt w a zs) (o : Obj) : PathAt (w.alloc o) a zs := h.below ((Below.refl _ _).alloc (Nat.le_refl _) o)
/-- Its number at a place. -/
theorem PathAt.num {w : World} {a : Option Addr} {zs : List Int} (h : PathAt w a zs) (i : Nat) (hi : i < zs.length) : ∃ b off, a = some ⟨b, off, none⟩ ∧ w.cell? ⟨b, off + i, none⟩ = some (.int .i64 (zs.getD i 0)) := by
  rcases h with rfl | ⟨b, off, e, h⟩
  · simp at hi
  · exact ⟨b, off, e, h i hi⟩

/-! Box -/

/-- A value's five fields in a block of its own. -/
structure BoxAt (w : World) (x : Nat) (k : Int) (b : Bool) (n : Int) (s : ByteArray) (p : Option Addr) (l c : Nat) : Prop where
  c0 : w.cell? ⟨x, 0, none⟩ = some (.int .i64 k)
  c1 : w.cell? ⟨x, 1, none⟩ = some (.bool b)
  c2 : w.cell? ⟨x, 2, none⟩ = some (.int .i64 n)
  c3 : w.cell? ⟨x, 3, none⟩ = some (.string s)
  c4 : w.cell? ⟨x, 4, none⟩ = some (.slice p l c)
  fr : ∀ j, w.frozen? ⟨x, j, none⟩ = false
theorem BoxAt.new (w : World) (k : Int) (b : Bool) (n : Int) (s : ByteArray) (p : Option Addr) (l c : Nat) {x : Nat} (hx : x = w.heap.size) : BoxAt (w.alloc (.cells #[.int .i64 k, .bool b, .int .i64 n, .string s, .slice p l c] 37)) x k b n s p l c := by
  subst hx
  constructor <;> (simp only [World.cell?, World.frozen?, heap_alloc_new]; simp)
theorem BoxAt.lt {w : World} {x : Nat} {k : Int} {b : Bool} {n : Int} {s : ByteArray} {p : Option Addr} {l c : Nat} (h : BoxAt w x k b n s p l c) : x < w.heap.size := World.block_lt_of_cell? w _ h.c0
theorem BoxAt.below {w w' : World} {x : Nat} {k : Int} {b : Bool} {n : Int} {s : ByteArray} {p : Option Addr} {l c : Nat} (h : BoxAt w x k b n s p l c) (hb : Below w.heap.size w w') : BoxAt w' x k b n s p l c :=
  ⟨(hb.cell h.lt).trans h.c0, (hb.cell h.lt).trans h.c1, (hb.cell h.lt).trans h.c2, (hb.cell h.lt).trans h.c3, (hb.cell h.lt).trans h.c4, fun j => (hb.frozen h.lt).trans (h.fr j)⟩
theorem BoxAt.alloc {w : World} {x : Nat} {k : Int} {b : Bool} {n : Int} {s : ByteArray} {p : Option Addr} {l c : Nat} (h : BoxAt w x k b n s p l c) (o : Obj) : BoxAt (w.alloc o) x k b n s p l c :=
  h.below ((Below.refl _ _).alloc (Nat.le_refl _) o)
theorem BoxAt.put {w : World} {x : Nat} {k : Int} {b : Bool} {n : Int} {s : ByteArray} {p : Option Addr} {l c : Nat} (h : BoxAt w x k b n s p l c) (k' : Int) (b' : Bool) (n' : Int) (s' : ByteArray) (p' : Option Addr) (l' c' : Nat) :
    BoxAt (((((w.setCell ⟨x, 0, none⟩ (.int .i64 k')).setCell ⟨x, 1, none⟩ (.bool b')).setCell ⟨x, 2, none⟩ (.int .i64 n')).setCell ⟨x, 3, none⟩ (.string s')).setCell ⟨x, 4, none⟩ (.slice p' l' c')) x k' b' n' s' p' l' c' := by
  obtain ⟨c0, c1, c2, c3, c4, fr⟩ := h
  constructor
  · go_cell
  · go_cell
  · go_cell
  · go_cell
  · go_cell
  · intro j
    simpa using fr j
theorem results_box {fn : Func} {q : Tmp} (h : fn.results = #[.cell q 37]) (tmps : Array Value) {w : World} {x : Nat} {k : Int} {b : Bool} {n : Int} {s : ByteArray} {p : Option Addr} {l c : Nat}
    (hq : tmps.getD q undef = .pointer (some ⟨x, 0, none⟩)) (hb : BoxAt w x k b n s p l c) : (results fn tmps).run Tryz.prog w = .ok (.agg #[.int .i64 k, .bool b, .int .i64 n, .string s, .slice p l c]) w := by
  obtain ⟨c0, c1, c2, c3, c4, fr⟩ := hb
  have hq' : tmps[q]?.getD undef = .pointer (some ⟨x, 0, none⟩) := by simpa using hq
  simp [results, h, hq', go_sem, c0, c1, c2, c3, c4]
/-- A world in which nothing elder has turned, behind two steps. -/
theorem below_on {a w w' : World} (h : Below a.heap.size a w) (k : Below w.heap.size w w') : Below a.heap.size a w' := h.trans (k.mono h.size)
theorem below_new (w : World) (o : Obj) : Below w.heap.size w (w.alloc o) := (Below.refl _ _).alloc (Nat.le_refl _) o

/-! Rgt -/

def idB (n : Int) : Bool := decide (0 ≤ n) && decide (n ≤ 1099511627776)
def othB (k : Int) (b : Bool) (n : Int) (s : ByteArray) (l : Nat) : Bool :=
  (decide (k = 1) || !b) && (decide (k = 2) || decide (k = 4) || decide (k = 5) || decide (n = 0)) && (decide (k = 3) || decide (s.size = 0)) && (decide (k = 6) || decide (l = 0))
def trailB (z : List Int) : Bool := decide (1 ≤ z.length) && decide (z.length ≤ 9) && z.all idB
def fitB (k : Int) (n : Int) (s : ByteArray) (z : List Int) (V : Bool) : Bool :=
  if k = 0 ∨ k = 1 ∨ k = 2 then true else if k = 3 then decide (s.size ≤ 4096) && V else if k = 4 ∨ k = 5 then idB n else if k = 6 then trailB z else false

theorem size0 {s : ByteArray} (h : s.size = 0) : s = ⟨#[]⟩ := by
  obtain ⟨⟨l⟩⟩ := s
  cases l with
  | nil => rfl
  | cons a r => simp [ByteArray.size] at h
theorem e00 : (ByteArray.mk #[]).size = 0 := rfl
theorem toList_ne {s : ByteArray} (h : ¬ s.size = 0) : ¬ s.toList = [] := by
  rw [ByteArray.toList_eq]
  intro e
  have := congrArg List.length e
  exact h (by simpa using this)

theorem isID_any (n : Int) (w : World) : Calls Tryz.prog 164 #[.int .i64 n] w fun e w' => e = .returned (.bool (idB n)) ∧ w' = w := by
  unfold idB
  by_cases h : 0 ≤ n
  · go_enter Tryz.func164, Tryz.ntmps164
    go_wp2
    go_returns
    exact ⟨by simp [h], rfl⟩
  · rw [decide_eq_false h]
    go_enter Tryz.func164, Tryz.ntmps164
    go_wp2
    go_returns
    exact ⟨rfl, rfl⟩
theorem id_any (n : Int) (w : World) : Calls Tryz.prog 106 #[.int .i64 n] w fun e w' => e = .returned (.bool (idB n)) ∧ w' = w := by
  unfold idB
  by_cases h : 0 ≤ n
  · go_enter Tryz.func106, Tryz.ntmps106
    go_wp2
    go_returns
    exact ⟨by simp [h], rfl⟩
  · rw [decide_eq_false h]
    go_enter Tryz.func106, Tryz.ntmps106
    go_wp2
    go_returns
    exact ⟨rfl, rfl⟩

theorem all_take (z : List Int) (j : Nat) (hj : j < z.length) (h : (z.take j).all idB = true) (hi : idB (z.getD j 0) = true) : (z.take (j + 1)).all idB = true := by
  rw [List.take_succ_eq_append_getElem hj, List.all_append, h]
  simp [List.getD, List.getElem?_eq_getElem hj] at hi
  simp [hi]
theorem all_no (z : List Int) (j : Nat) (hj : j < z.length) (hi : idB (z.getD j 0) = false) : z.all idB = false := by
  rw [List.all_eq_false]
  refine ⟨z[j], List.getElem_mem hj, ?_⟩
  simp [List.getD, List.getElem?_eq_getElem hj] at hi
  simp [hi]
theorem all_yes (z : List Int) (j : Nat) (hj : ¬ j < z.length) (h : (z.take j).all idB = true) : z.all idB = true := by
  rwa [List.take_of_length_le (by omega)] at h

set_option maxRecDepth 100000 in
theorem isTrail_any (a : Option Addr) (l c : Nat) (z : List Int) (w : World) (h1 : z.length = l) (p : PathAt w a z) :
    Calls Tryz.prog 165 #[.slice a l c] w fun e w' => e = .returned (.bool (trailB z)) ∧ w' = w := by
  unfold trailB
  rw [h1]
  by_cases c1 : 1 ≤ l
  case neg =>
    go_enter Tryz.func165, Tryz.ntmps165
    go_wp2
    go_returns
    exact ⟨by simp [c1], rfl⟩
  case pos =>
  by_cases c9 : l ≤ 9
  case neg =>
    go_enter Tryz.func165, Tryz.ntmps165
    go_wp2
    go_returns
    exact ⟨by simp [c9], rfl⟩
  case pos =>
  simp only [c1, c9, decide_true, Bool.true_and]
  go_enter Tryz.func165, Tryz.ntmps165
  go_wp2
  go_loopw [15] (fun i wr => wr = w ∧ ∃ j : Nat, j ≤ l ∧ i = .int .i64 j ∧ (z.take j).all idB = true) (fun i _ => l - (intOf i).toNat)
  case atStart => exact ⟨rfl, 0, by omega, rfl, by simp⟩
  case round =>
    obtain ⟨hw, j, j1, rfl, hz⟩ := hrel
    rw [hw]
    clear hw
    by_cases hj : j < l
    · obtain ⟨x, o, rfl, q⟩ := p.num j (by omega)
      cases hi : idB (z.getD j 0)
      · have hn := all_no z j (by omega) hi
        replace hz : Hid _ := hz
        generalize z.getD j 0 = u at *
        go_wp2_with (go_at_call 164; refine (isID_any _ _).mono ?_; rintro e w1 ⟨rfl, hw1⟩; subst hw1; rw [hi])
        go_returns
        exact ⟨by rw [hn]; rfl, rfl⟩
      · have hy : Hid ((z.take (j + 1)).all idB = true) := all_take z j (by omega) hz hi
        replace hz : Hid _ := hz
        generalize z.getD j 0 = u at *
        go_wp2_with (go_at_call 164; refine (isID_any _ _).mono ?_; rintro e w1 ⟨rfl, hw1⟩; subst hw1; rw [hi])
        exact ⟨⟨by first | rfl | trivial, j + 1, by omega, by go_num, hy.out⟩, by simp [intOf]; omega⟩
    · have hy := all_yes z j (by omega) hz
      replace hz : Hid _ := hz
      go_wp2_with fail
      go_returns
      exact ⟨by rw [hy]; rfl, rfl⟩

/-! Oth -/

set_option maxRecDepth 100000 in
set_option maxHeartbeats 4000000 in
theorem oth_b1 (b : Bool) (n : Int) (s : ByteArray) (p : Option Addr) (l c : Nat) (w : World) :
    Calls Tryz.prog 147 #[.agg #[.int .i64 1, .bool b, .int .i64 n, .string s, .slice p l c]] w fun e w' => e = .returned (.bool (othB 1 b n s l)) ∧ Below w.heap.size w w' := by
  by_cases hn : n = 0
  case neg =>
    rw [show othB _ _ _ _ _ = false by first | rfl | (simp [othB, hn]; done) | (simp [othB, hn, e00]; done)]
    go_enter Tryz.func147, Tryz.ntmps147
    go_wp2_with fail
    all_goals first | (go_returns; exact ⟨rfl, by go_grown⟩) | (go_returns; exact ⟨by simp [*], by go_grown⟩) | (exfalso; simp_all; done)
  case pos =>
  subst hn
  by_cases hs : s.size = 0
  case neg =>
    have hs1 := toList_ne hs
    have hs2 : (s.toList == []) = false := by simpa using hs1
    rw [show othB _ _ _ _ _ = false by first | rfl | (simp [othB, hs]; done) | (simp [othB, hs, e00]; done)]
    go_enter Tryz.func147, Tryz.ntmps147
    go_wp2_with fail
    all_goals first | (go_returns; exact ⟨rfl, by go_grown⟩) | (go_returns; exact ⟨by simp [*], by go_grown⟩) | (exfalso; simp_all; done)
  case pos =>
  obtain rfl := size0 hs
  clear hs
  by_cases hl : l = 0
  case neg =>
    have hl1 : ¬ ((l : Int) = 0) := by omega
    have hl2 : ((l : Int) == 0) = false := by simpa using hl
    rw [show othB _ _ _ _ _ = false by first | rfl | (simp [othB, hl]; done) | (simp [othB, hl, e00]; done)]
    go_enter Tryz.func147, Tryz.ntmps147
    go_wp2_with fail
    all_goals first | (go_returns; exact ⟨rfl, by go_grown⟩) | (go_returns; exact ⟨by simp [*], by go_grown⟩) | (exfalso; simp_all; done)
  case pos =>
  subst hl
  rw [show othB _ _ _ _ _ = true by first | rfl | (simp [othB]; done) | (simp [othB, e00]; done)]
  go_enter Tryz.func147, Tryz.ntmps147
  go_wp2_with fail
  all_goals first | (go_returns; exact ⟨rfl, by go_grown⟩) | (go_returns; exact ⟨by simp [*], by go_grown⟩) | (exfalso; simp_all; done)

set_option maxRecDepth 100000 in
set_option maxHeartbeats 4000000 in
theorem oth_n2 (b : Bool) (n : Int) (s : ByteArray) (p : Option Addr) (l c : Nat) (w : World) :
    Calls Tryz.prog 147 #[.agg #[.int .i64 2, .bool b, .int .i64 n, .string s, .slice p l c]] w fun e w' => e = .returned (.bool (othB 2 b n s l)) ∧ Below w.heap.size w w' := by
  cases b
  case true =>
    rw [show othB _ _ _ _ _ = false by first | rfl | (simp [othB]; done) | (simp [othB, e00]; done)]
    go_enter Tryz.func147, Tryz.ntmps147
    go_wp2_with fail
    all_goals first | (go_returns; exact ⟨rfl, by go_grown⟩) | (go_returns; exact ⟨by simp [*], by go_grown⟩) | (exfalso; simp_all; done)
  case false =>
  by_cases hs : s.size = 0
  case neg =>
    have hs1 := toList_ne hs
    have hs2 : (s.toList == []) = false := by simpa using hs1
    rw [show othB _ _ _ _ _ = false by first | rfl | (simp [othB, hs]; done) | (simp [othB, hs, e00]; done)]
    go_enter Tryz.func147, Tryz.ntmps147
    go_wp2_with fail
    all_goals first | (go_returns; exact ⟨rfl, by go_grown⟩) | (go_returns; exact ⟨by simp [*], by go_grown⟩) | (exfalso; simp_all; done)
  case pos =>
  obtain rfl := size0 hs
  clear hs
  by_cases hl : l = 0
  case neg =>
    have hl1 : ¬ ((l : Int) = 0) := by omega
    have hl2 : ((l : Int) == 0) = false := by simpa using hl
    rw [show othB _ _ _ _ _ = false by first | rfl | (simp [othB, hl]; done) | (simp [othB, hl, e00]; done)]
    go_enter Tryz.func147, Tryz.ntmps147
    go_wp2_with fail
    all_goals first | (go_returns; exact ⟨rfl, by go_grown⟩) | (go_returns; exact ⟨by simp [*], by go_grown⟩) | (exfalso; simp_all; done)
  case pos =>
  subst hl
  rw [show othB _ _ _ _ _ = true by first | rfl | (simp [othB]; done) | (simp [othB, e00]; done)]
  go_enter Tryz.func147, Tryz.ntmps147
  go_wp2_with fail
  all_goals first | (go_returns; exact ⟨rfl, by go_grown⟩) | (go_returns; exact ⟨by simp [*], by go_grown⟩) | (exfalso; simp_all; done)

set_option maxRecDepth 100000 in
set_option maxHeartbeats 4000000 in
theorem oth_n4 (b : Bool) (n : Int) (s : ByteArray) (p : Option Addr) (l c : Nat) (w : World) :
    Calls Tryz.prog 147 #[.agg #[.int .i64 4, .bool b, .int .i64 n, .string s, .slice p l c]] w fun e w' => e = .returned (.bool (othB 4 b n s l)) ∧ Below w.heap.size w w' := by
  cases b
  case true =>
    rw [show othB _ _ _ _ _ = false by first | rfl | (simp [othB]; done) | (simp [othB, e00]; done)]
    go_enter Tryz.func147, Tryz.ntmps147
    go_wp2_with fail
    all_goals first | (go_returns; exact ⟨rfl, by go_grown⟩) | (go_returns; exact ⟨by simp [*], by go_grown⟩) | (exfalso; simp_all; done)
  case false =>
  by_cases hs : s.size = 0
  case neg =>
    have hs1 := toList_ne hs
    have hs2 : (s.toList == []) = false := by simpa using hs1
    rw [show othB _ _ _ _ _ = false by first | rfl | (simp [othB, hs]; done) | (simp [othB, hs, e00]; done)]
    go_enter Tryz.func147, Tryz.ntmps147
    go_wp2_with fail
    all_goals first | (go_returns; exact ⟨rfl, by go_grown⟩) | (go_returns; exact ⟨by simp [*], by go_grown⟩) | (exfalso; simp_all; done)
  case pos =>
  obtain rfl := size0 hs
  clear hs
  by_cases hl : l = 0
  case neg =>
    have hl1 : ¬ ((l : Int) = 0) := by omega
    have hl2 : ((l : Int) == 0) = false := by simpa using hl
    rw [show othB _ _ _ _ _ = false by first | rfl | (simp [othB, hl]; done) | (simp [othB, hl, e00]; done)]
    go_enter Tryz.func147, Tryz.ntmps147
    go_wp2_with fail
    all_goals first | (go_returns; exact ⟨rfl, by go_grown⟩) | (go_returns; exact ⟨by simp [*], by go_grown⟩) | (exfalso; simp_all; done)
  case pos =>
  subst hl
  rw [show othB _ _ _ _ _ = true by first | rfl | (simp [othB]; done) | (simp [othB, e00]; done)]
  go_enter Tryz.func147, Tryz.ntmps147
  go_wp2_with fail
  all_goals first | (go_returns; exact ⟨rfl, by go_grown⟩) | (go_returns; exact ⟨by simp [*], by go_grown⟩) | (exfalso; simp_all; done)

set_option maxRecDepth 100000 in
set_option maxHeartbeats 4000000 in
theorem oth_n5 (b : Bool) (n : Int) (s : ByteArray) (p : Option Addr) (l c : Nat) (w : World) :
    Calls Tryz.prog 147 #[.agg #[.int .i64 5, .bool b, .int .i64 n, .string s, .slice p l c]] w fun e w' => e = .returned (.bool (othB 5 b n s l)) ∧ Below w.heap.size w w' := by
  cases b
  case true =>
    rw [show othB _ _ _ _ _ = false by first | rfl | (simp [othB]; done) | (simp [othB, e00]; done)]
    go_enter Tryz.func147, Tryz.ntmps147
    go_wp2_with fail
    all_goals first | (go_returns; exact ⟨rfl, by go_grown⟩) | (go_returns; exact ⟨by simp [*], by go_grown⟩) | (exfalso; simp_all; done)
  case false =>
  by_cases hs : s.size = 0
  case neg =>
    have hs1 := toList_ne hs
    have hs2 : (s.toList == []) = false := by simpa using hs1
    rw [show othB _ _ _ _ _ = false by first | rfl | (simp [othB, hs]; done) | (simp [othB, hs, e00]; done)]
    go_enter Tryz.func147, Tryz.ntmps147
    go_wp2_with fail
    all_goals first | (go_returns; exact ⟨rfl, by go_grown⟩) | (go_returns; exact ⟨by simp [*], by go_grown⟩) | (exfalso; simp_all; done)
  case pos =>
  obtain rfl := size0 hs
  clear hs
  by_cases hl : l = 0
  case neg =>
    have hl1 : ¬ ((l : Int) = 0) := by omega
    have hl2 : ((l : Int) == 0) = false := by simpa using hl
    rw [show othB _ _ _ _ _ = false by first | rfl | (simp [othB, hl]; done) | (simp [othB, hl, e00]; done)]
    go_enter Tryz.func147, Tryz.ntmps147
    go_wp2_with fail
    all_goals first | (go_returns; exact ⟨rfl, by go_grown⟩) | (go_returns; exact ⟨by simp [*], by go_grown⟩) | (exfalso; simp_all; done)
  case pos =>
  subst hl
  rw [show othB _ _ _ _ _ = true by first | rfl | (simp [othB]; done) | (simp [othB, e00]; done)]
  go_enter Tryz.func147, Tryz.ntmps147
  go_wp2_with fail
  all_goals first | (go_returns; exact ⟨rfl, by go_grown⟩) | (go_returns; exact ⟨by simp [*], by go_grown⟩) | (exfalso; simp_all; done)

set_option maxRecDepth 100000 in
set_option maxHeartbeats 4000000 in
theorem oth_t3 (b : Bool) (n : Int) (s : ByteArray) (p : Option Addr) (l c : Nat) (w : World) :
    Calls Tryz.prog 147 #[.agg #[.int .i64 3, .bool b, .int .i64 n, .string s, .slice p l c]] w fun e w' => e = .returned (.bool (othB 3 b n s l)) ∧ Below w.heap.size w w' := by
  cases b
  case true =>
    rw [show othB _ _ _ _ _ = false by first | rfl | (simp [othB]; done) | (simp [othB, e00]; done)]
    go_enter Tryz.func147, Tryz.ntmps147
    go_wp2_with fail
    all_goals first | (go_returns; exact ⟨rfl, by go_grown⟩) | (go_returns; exact ⟨by simp [*], by go_grown⟩) | (exfalso; simp_all; done)
  case false =>
  by_cases hn : n = 0
  case neg =>
    rw [show othB _ _ _ _ _ = false by first | rfl | (simp [othB, hn]; done) | (simp [othB, hn, e00]; done)]
    go_enter Tryz.func147, Tryz.ntmps147
    go_wp2_with fail
    all_goals first | (go_returns; exact ⟨rfl, by go_grown⟩) | (go_returns; exact ⟨by simp [*], by go_grown⟩) | (exfalso; simp_all; done)
  case pos =>
  subst hn
  by_cases hl : l = 0
  case neg =>
    have hl1 : ¬ ((l : Int) = 0) := by omega
    have hl2 : ((l : Int) == 0) = false := by simpa using hl
    rw [show othB _ _ _ _ _ = false by first | rfl | (simp [othB, hl]; done) | (simp [othB, hl, e00]; done)]
    go_enter Tryz.func147, Tryz.ntmps147
    go_wp2_with fail
    all_goals first | (go_returns; exact ⟨rfl, by go_grown⟩) | (go_returns; exact ⟨by simp [*], by go_grown⟩) | (exfalso; simp_all; done)
  case pos =>
  subst hl
  rw [show othB _ _ _ _ _ = true by first | rfl | (simp [othB]; done) | (simp [othB, e00]; done)]
  go_enter Tryz.func147, Tryz.ntmps147
  go_wp2_with fail
  all_goals first | (go_returns; exact ⟨rfl, by go_grown⟩) | (go_returns; exact ⟨by simp [*], by go_grown⟩) | (exfalso; simp_all; done)

set_option maxRecDepth 100000 in
set_option maxHeartbeats 4000000 in
theorem oth_p6 (b : Bool) (n : Int) (s : ByteArray) (p : Option Addr) (l c : Nat) (w : World) :
    Calls Tryz.prog 147 #[.agg #[.int .i64 6, .bool b, .int .i64 n, .string s, .slice p l c]] w fun e w' => e = .returned (.bool (othB 6 b n s l)) ∧ Below w.heap.size w w' := by
  cases b
  case true =>
    rw [show othB _ _ _ _ _ = false by first | rfl | (simp [othB]; done) | (simp [othB, e00]; done)]
    go_enter Tryz.func147, Tryz.ntmps147
    go_wp2_with fail
    all_goals first | (go_returns; exact ⟨rfl, by go_grown⟩) | (go_returns; exact ⟨by simp [*], by go_grown⟩) | (exfalso; simp_all; done)
  case false =>
  by_cases hn : n = 0
  case neg =>
    rw [show othB _ _ _ _ _ = false by first | rfl | (simp [othB, hn]; done) | (simp [othB, hn, e00]; done)]
    go_enter Tryz.func147, Tryz.ntmps147
    go_wp2_with fail
    all_goals first | (go_returns; exact ⟨rfl, by go_grown⟩) | (go_returns; exact ⟨by simp [*], by go_grown⟩) | (exfalso; simp_all; done)
  case pos =>
  subst hn
  by_cases hs : s.size = 0
  case neg =>
    have hs1 := toList_ne hs
    have hs2 : (s.toList == []) = false := by simpa using hs1
    rw [show othB _ _ _ _ _ = false by first | rfl | (simp [othB, hs]; done) | (simp [othB, hs, e00]; done)]
    go_enter Tryz.func147, Tryz.ntmps147
    go_wp2_with fail
    all_goals first | (go_returns; exact ⟨rfl, by go_grown⟩) | (go_returns; exact ⟨by simp [*], by go_grown⟩) | (exfalso; simp_all; done)
  case pos =>
  obtain rfl := size0 hs
  clear hs
  rw [show othB _ _ _ _ _ = true by first | rfl | (simp [othB]; done) | (simp [othB, e00]; done)]
  go_enter Tryz.func147, Tryz.ntmps147
  go_wp2_with fail
  all_goals first | (go_returns; exact ⟨rfl, by go_grown⟩) | (go_returns; exact ⟨by simp [*], by go_grown⟩) | (exfalso; simp_all; done)

set_option maxRecDepth 100000 in
set_option maxHeartbeats 4000000 in
theorem oth_any (k : Int) (b : Bool) (n : Int) (s : ByteArray) (p : Option Addr) (l c : Nat) (w : World) (h1 : ¬ k = 1) (h2 : ¬ k = 2) (h4 : ¬ k = 4) (h5 : ¬ k = 5) (h3 : ¬ k = 3) (h6 : ¬ k = 6) :
    Calls Tryz.prog 147 #[.agg #[.int .i64 k, .bool b, .int .i64 n, .string s, .slice p l c]] w fun e w' => e = .returned (.bool (othB k b n s l)) ∧ Below w.heap.size w w' := by
  cases b
  case true =>
    rw [show othB _ _ _ _ _ = false by first | rfl | (simp [othB, h1, h2, h4, h5, h3, h6]; done) | (simp [othB, h1, h2, h4, h5, h3, h6, e00]; done)]
    go_enter Tryz.func147, Tryz.ntmps147
    go_wp2_with fail
    all_goals first | (go_returns; exact ⟨rfl, by go_grown⟩) | (go_returns; exact ⟨by simp [*], by go_grown⟩) | (exfalso; simp_all; done)
  case false =>
  by_cases hn : n = 0
  case neg =>
    rw [show othB _ _ _ _ _ = false by first | rfl | (simp [othB, h1, h2, h4, h5, h3, h6, hn]; done) | (simp [othB, h1, h2, h4, h5, h3, h6, hn, e00]; done)]
    go_enter Tryz.func147, Tryz.ntmps147
    go_wp2_with fail
    all_goals first | (go_returns; exact ⟨rfl, by go_grown⟩) | (go_returns; exact ⟨by simp [*], by go_grown⟩) | (exfalso; simp_all; done)
  case pos =>
  subst hn
  by_cases hs : s.size = 0
  case neg =>
    have hs1 := toList_ne hs
    have hs2 : (s.toList == []) = false := by simpa using hs1
    rw [show othB _ _ _ _ _ = false by first | rfl | (simp [othB, h1, h2, h4, h5, h3, h6, hs]; done) | (simp [othB, h1, h2, h4, h5, h3, h6, hs, e00]; done)]
    go_enter Tryz.func147, Tryz.ntmps147
    go_wp2_with fail
    all_goals first | (go_returns; exact ⟨rfl, by go_grown⟩) | (go_returns; exact ⟨by simp [*], by go_grown⟩) | (exfalso; simp_all; done)
  case pos =>
  obtain rfl := size0 hs
  clear hs
  by_cases hl : l = 0
  case neg =>
    have hl1 : ¬ ((l : Int) = 0) := by omega
    have hl2 : ((l : Int) == 0) = false := by simpa using hl
    rw [show othB _ _ _ _ _ = false by first | rfl | (simp [othB, h1, h2, h4, h5, h3, h6, hl]; done) | (simp [othB, h1, h2, h4, h5, h3, h6, hl, e00]; done)]
    go_enter Tryz.func147, Tryz.ntmps147
    go_wp2_with fail
    all_goals first | (go_returns; exact ⟨rfl, by go_grown⟩) | (go_returns; exact ⟨by simp [*], by go_grown⟩) | (exfalso; simp_all; done)
  case pos =>
  subst hl
  rw [show othB _ _ _ _ _ = true by first | rfl | (simp [othB, h1, h2, h4, h5, h3, h6]; done) | (simp [othB, h1, h2, h4, h5, h3, h6, e00]; done)]
  go_enter Tryz.func147, Tryz.ntmps147
  go_wp2_with fail
  all_goals first | (go_returns; exact ⟨rfl, by go_grown⟩) | (go_returns; exact ⟨by simp [*], by go_grown⟩) | (exfalso; simp_all; done)

theorem others_any (k : Int) (b : Bool) (n : Int) (s : ByteArray) (p : Option Addr) (l c : Nat) (w : World) : Calls Tryz.prog 147 #[.agg #[.int .i64 k, .bool b, .int .i64 n, .string s, .slice p l c]] w fun e w' => e = .returned (.bool (othB k b n s l)) ∧ Below w.heap.size w w' := by
  by_cases h1 : k = 1
  · subst h1; exact oth_b1 b n s p l c w
  by_cases h2 : k = 2
  · subst h2; exact oth_n2 b n s p l c w
  by_cases h4 : k = 4
  · subst h4; exact oth_n4 b n s p l c w
  by_cases h5 : k = 5
  · subst h5; exact oth_n5 b n s p l c w
  by_cases h3 : k = 3
  · subst h3; exact oth_t3 b n s p l c w
  by_cases h6 : k = 6
  · subst h6; exact oth_p6 b n s p l c w
  exact oth_any k b n s p l c w h1 h2 h4 h5 h3 h6

/-! Rit -/

/-- What a value is. -/
def rgtB (k : Int) (b : Bool) (n : Int) (s : ByteArray) (l : Nat) (z : List Int) (V : Bool) : Bool := othB k b n s l && fitB k n s z V

set_option maxRecDepth 100000 in
set_option maxHeartbeats 4000000 in
theorem fits_any (k : Int) (b : Bool) (n : Int) (s : ByteArray) (p : Option Addr) (l c : Nat) (z : List Int) (V : Bool) (w : World) (h1 : z.length = l) (q : PathAt w p z) (hV : ∀ w', Below w.heap.size w w' → Calls Tryz.prog 105 #[.string s] w' fun e w'' => e = .returned (.bool V) ∧ Below w'.heap.size w' w'') :
    Calls Tryz.prog 148 #[.agg #[.int .i64 k, .bool b, .int .i64 n, .string s, .slice p l c]] w fun e w' => e = .returned (.bool (fitB k n s z V)) ∧ Below w.heap.size w w' := by
  unfold fitB
  by_cases h012 : k = 0 ∨ k = 1 ∨ k = 2
  · rw [if_pos h012]
    rcases h012 with rfl | rfl | rfl
    all_goals
      go_enter Tryz.func148, Tryz.ntmps148
      go_wp2_with fail
      go_returns
      exact ⟨rfl, by go_grown⟩
  rw [if_neg h012]
  have k0 : ¬ k = 0 := fun h => h012 (.inl h)
  have k1 : ¬ k = 1 := fun h => h012 (.inr (.inl h))
  have k2 : ¬ k = 2 := fun h => h012 (.inr (.inr h))
  clear h012
  by_cases k3 : k = 3
  · subst k3
    rw [if_pos rfl]
    by_cases hs : s.size ≤ 4096
    · rw [decide_eq_true hs, Bool.true_and]
      have hv := hV _ (below_new w (.cells #[.int .i64 3, .bool b, .int .i64 n, .string s, .slice p l c] 37))
      replace hv : Hid _ := hv
      go_enter Tryz.func148, Tryz.ntmps148
      go_wp2_with (go_at_call 105; refine Calls.mono hv.out ?_; rintro e w1 ⟨rfl, g1⟩)
      go_returns
      exact ⟨rfl, below_on (below_new _ _) g1⟩
    · rw [decide_eq_false hs, Bool.false_and]
      go_enter Tryz.func148, Tryz.ntmps148
      go_wp2_with fail
      go_returns
      exact ⟨rfl, by go_grown⟩
  rw [if_neg k3]
  by_cases h45 : k = 4 ∨ k = 5
  · rw [if_pos h45]
    rcases h45 with rfl | rfl
    all_goals
      go_enter Tryz.func148, Tryz.ntmps148
      go_wp2_with (go_at_call 164; refine (isID_any _ _).mono ?_; rintro e w1 ⟨rfl, rfl⟩)
      go_returns
      exact ⟨rfl, by go_grown⟩
  rw [if_neg h45]
  have k4 : ¬ k = 4 := fun h => h45 (.inl h)
  have k5 : ¬ k = 5 := fun h => h45 (.inr h)
  clear h45
  by_cases k6 : k = 6
  · subst k6
    rw [if_pos rfl]
    have q' := q.alloc (.cells #[.int .i64 6, .bool b, .int .i64 n, .string s, .slice p l c] 37)
    go_enter Tryz.func148, Tryz.ntmps148
    go_wp2_with (go_at_call 165; refine (isTrail_any _ _ _ z _ h1 q').mono ?_; rintro e w1 ⟨rfl, rfl⟩)
    go_returns
    exact ⟨rfl, by go_grown⟩
  rw [if_neg k6]
  go_enter Tryz.func148, Tryz.ntmps148
  go_wp2_with fail
  go_returns
  exact ⟨rfl, by go_grown⟩

set_option maxRecDepth 100000 in
set_option maxHeartbeats 4000000 in
theorem Right_any (k : Int) (b : Bool) (n : Int) (s : ByteArray) (p : Option Addr) (l c : Nat) (z : List Int) (V : Bool) (w : World) (h1 : z.length = l) (q : PathAt w p z) (hV : ∀ w', Below w.heap.size w w' → Calls Tryz.prog 105 #[.string s] w' fun e w'' => e = .returned (.bool V) ∧ Below w'.heap.size w' w'') :
    Calls Tryz.prog 124 #[.agg #[.int .i64 k, .bool b, .int .i64 n, .string s, .slice p l c]] w fun e w' => e = .returned (.bool (rgtB k b n s l z V)) ∧ Below w.heap.size w w' := by
  unfold rgtB
  have hbx := BoxAt.new w k b n s p l c rfl
  cases ho : othB k b n s l
  · rw [Bool.false_and]
    go_enter Tryz.func124, Tryz.ntmps124
    go_wp2_with (go_at_call 147; refine (others_any _ _ _ _ _ _ _ _).mono ?_; rintro e w1 ⟨rfl, g1⟩; rw [ho])
    go_returns
    exact ⟨rfl, below_on (below_new _ _) g1⟩
  · rw [Bool.true_and]
    go_enter Tryz.func124, Tryz.ntmps124
    go_wp2_with (first | (go_at_call 147; refine (others_any _ _ _ _ _ _ _ _).mono ?_; rintro e w1 ⟨rfl, g1⟩; rw [ho]; have hw := below_on (below_new w _) g1; obtain ⟨c0, c1, c2, c3, c4, -⟩ := hbx.below g1) | (go_at_call 148; refine (fits_any _ _ _ _ _ _ _ z V _ h1 (q.below hw) (fun w' hb => hV w' (below_on hw hb))).mono ?_; rintro e w2 ⟨rfl, g2⟩))
    go_returns
    exact ⟨rfl, below_on hw g2⟩

end Go.Proofs.YtkcnpbckmdgfnaaGreatDoor.V2
