/-
  Where a label stands among types, a name among properties: typeAt, propAt.
-/
import Derived.Test.YtmioohbailhppaaDoorVal
import Derived.LoopTactic
namespace Go.Proofs.YtmioohbailhppaaDoor
open Go.RowKit
set_option linter.unusedSimpArgs false
set_option linter.unusedVariables false

/-- A property that is declared. -/
structure PD where
  n : ByteArray
  k : Int
instance : Inhabited PD := ⟨⟨⟨#[]⟩, 0⟩⟩
/-- A type that is declared. -/
structure TD where
  n : ByteArray
  p : Option Addr
  l : Nat
  c : Nat
  ps : List PD
instance : Inhabited TD := ⟨⟨⟨#[]⟩, none, 0, 0, []⟩⟩

structure PDAt (w : World) (g o : Nat) (x : PD) : Prop where
  c0 : w.cell? ⟨g, o, none⟩ = some (.string x.n)
  c1 : w.cell? ⟨g, o + 1, none⟩ = some (.int .i64 x.k)
  sz : x.n.size ≤ maxLen
theorem PDAt.below {w w' : World} {g o : Nat} {x : PD} (h : PDAt w g o x) (hb : Below w.heap.size w w') : PDAt w' g o x :=
  ⟨(hb.cell (World.block_lt_of_cell? w _ h.c0)).trans h.c0, (hb.cell (World.block_lt_of_cell? w _ h.c1)).trans h.c1, h.sz⟩
/-- A list of properties that are declared. -/
def PDsAt (w : World) (a : Option Addr) (L : List PD) : Prop :=
  L = [] ∨ ∃ g off, a = some ⟨g, off, none⟩ ∧ ∀ i, i < L.length → PDAt w g (off + i * 2) (L.getD i default)
theorem PDsAt.below {w w' : World} {a : Option Addr} {L : List PD} (h : PDsAt w a L) (hb : Below w.heap.size w w') : PDsAt w' a L := by
  rcases h with h | ⟨g, off, e, h⟩
  · exact .inl h
  · exact .inr ⟨g, off, e, fun i hi => (h i hi).below hb⟩
structure TDAt (w : World) (g o : Nat) (x : TD) : Prop where
  c0 : w.cell? ⟨g, o, none⟩ = some (.string x.n)
  c1 : w.cell? ⟨g, o + 1, none⟩ = some (.slice x.p x.l x.c)
  sz : x.n.size ≤ maxLen
  ln : x.ps.length = x.l
  lc : x.l ≤ x.c
  lm : x.c ≤ maxLen
  ps : PDsAt w x.p x.ps
theorem TDAt.below {w w' : World} {g o : Nat} {x : TD} (h : TDAt w g o x) (hb : Below w.heap.size w w') : TDAt w' g o x :=
  { h with
    c0 := (hb.cell (World.block_lt_of_cell? w _ h.c0)).trans h.c0
    c1 := (hb.cell (World.block_lt_of_cell? w _ h.c1)).trans h.c1
    ps := h.ps.below hb }
/-- A list of types. -/
def TDsAt (w : World) (a : Option Addr) (L : List TD) : Prop :=
  L = [] ∨ ∃ g off, a = some ⟨g, off, none⟩ ∧ ∀ i, i < L.length → TDAt w g (off + i * 2) (L.getD i default)
theorem TDsAt.below {w w' : World} {a : Option Addr} {L : List TD} (h : TDsAt w a L) (hb : Below w.heap.size w w') : TDsAt w' a L := by
  rcases h with h | ⟨g, off, e, h⟩
  · exact .inl h
  · exact .inr ⟨g, off, e, fun i hi => (h i hi).below hb⟩

/-- The first place of a list at which something is so; -1: nowhere. -/
def firstAt {α : Type} (f : α → Bool) : List α → Int
  | [] => -1
  | x :: r => if f x then 0 else if firstAt f r = -1 then -1 else firstAt f r + 1
theorem firstAt_lo {α : Type} (f : α → Bool) : ∀ L : List α, -1 ≤ firstAt f L ∧ firstAt f L < L.length
  | [] => by simp [firstAt]
  | x :: r => by
    have := firstAt_lo f r
    unfold firstAt
    simp only [List.length_cons]
    split
    · omega
    · split <;> omega
theorem firstAt_none {α : Type} [Inhabited α] (f : α → Bool) : ∀ L : List α, (∀ i, i < L.length → f (L.getD i default) = false) → firstAt f L = -1
  | [], _ => rfl
  | x :: r, h => by
    have h0 : f x = false := by simpa using h 0 (by simp)
    have h1 := firstAt_none f r fun i hi => by simpa using h (i + 1) (by simpa using hi)
    simp [firstAt, h0, h1]
theorem firstAt_some {α : Type} [Inhabited α] (f : α → Bool) : ∀ (L : List α) (j : Nat), j < L.length → (∀ i, i < j → f (L.getD i default) = false) → f (L.getD j default) = true → firstAt f L = j
  | [], j, hj, _, _ => by simp at hj
  | x :: r, 0, _, _, h => by
    have h0 : f x = true := by simpa using h
    simp [firstAt, h0]
  | x :: r, j + 1, hj, h, hf => by
    have h0 : f x = false := by simpa using h 0 (by simp)
    have h1 := firstAt_some f r j (by simpa using hj) (fun i hi => by simpa using h (i + 1) (by omega)) (by simpa using hf)
    simp [firstAt, h0, h1]
    try omega
theorem size_ne {a b : ByteArray} : (a.toList == b.toList) = decide (a = b) := by
  by_cases h : a = b
  · simp [h]
  · have : a.toList ≠ b.toList := fun e => h (by
      rw [ByteArray.toList_eq, ByteArray.toList_eq] at e
      exact ByteArray.ext (Array.toList_inj.1 e))
    simp [h, this]

theorem type_clo (xT : TD) (s : ByteArray) (g : Nat) (w : World) (hg : w.cell? ⟨g, 0, none⟩ = some (.string s)) :
    Calls Tryd.prog 58 #[.agg #[.string xT.n, .slice xT.p xT.l xT.c], .pointer (some ⟨g, 0, none⟩)] w fun e w' => e = .returned (.bool (decide (xT.n = s))) ∧ Below w.heap.size w w' := by
  have hg2 := cell_keep (.cells #[.string xT.n, .slice xT.p xT.l xT.c] 51) hg
  rw [← size_ne]
  go_enter Tryd.func58, Tryd.ntmps58
  go_wp2_with fail
  go_returns
  exact ⟨by simp, by go_grown⟩

set_option maxRecDepth 100000 in
theorem type_index (a : Option Addr) (n c : Nat) (L : List TD) (s : ByteArray) (g : Nat) (w : World) (hn : L.length = n) (hm : n ≤ maxLen) (hL : TDsAt w a L) (hg : w.cell? ⟨g, 0, none⟩ = some (.string s)) :
    Calls Tryd.prog 57 #[.slice a n c, .func (.func 58) #[] #[.pointer (some ⟨g, 0, none⟩)]] w fun e w' => e = .returned (.int .i64 (firstAt (fun x => decide (x.n = s)) L)) ∧ Below w.heap.size w w' := by
  unfold maxLen at hm
  go_enter Tryd.func57, Tryd.ntmps57
  go_wp2_with fail
  go_loopw [8] (fun i wr => Below w.heap.size w wr ∧ ∃ j : Nat, j ≤ n ∧ i = .int .i64 j ∧ ∀ k, k < j → decide ((L.getD k default).n = s) = false) (fun i _ => n - (intOf i).toNat)
  case atStart => exact ⟨Below.refl _ _, 0, by omega, rfl, by simp⟩
  case round =>
    obtain ⟨hb, j, j1, rfl, hz⟩ := hrel
    have hLr := hL.below hb
    have hgr := (hb.cell (World.block_lt_of_cell? w _ hg)).trans hg
    by_cases hj : j < n
    · rcases hLr with rfl | ⟨x, o, rfl, hx⟩
      · simp at hn; omega
      have hxj := hx j (by omega)
      have hS := firstAt_some (fun x : TD => decide (x.n = s)) L j (by omega) hz
      obtain ⟨X, hX⟩ : ∃ X, L.getD j default = X := ⟨_, rfl⟩
      rw [hX] at hxj hS
      replace hX : Hid _ := hX
      have k0 := hxj.c0
      have k1 := hxj.c1
      have hc := fun w hg => type_clo X s g w hg
      cases he : decide (X.n = s)
      · clear hS
        rw [he] at hc
        replace he : Hid _ := he
        replace hz : Hid _ := hz
        replace hc : Hid _ := hc
        go_wp2_with (go_at_call 58; refine (hc.out _ hgr).mono ?_; rintro e w1 ⟨rfl, hb1⟩)
        exact ⟨⟨below_on hb hb1, j + 1, by omega, rfl, fun k hk => by rcases Nat.lt_succ_iff_lt_or_eq.1 hk with h | rfl; exact hz.out k h; rw [hX.out]; exact he.out⟩, by show n - ((j : Int) + 1).toNat < n - (j : Int).toNat; omega⟩
      · have hf := hS he
        clear hS
        rw [he] at hc
        replace he : Hid _ := he
        replace hz : Hid _ := hz
        replace hc : Hid _ := hc
        replace hf : Hid _ := hf
        go_wp2_with (go_at_call 58; refine (hc.out _ hgr).mono ?_; rintro e w1 ⟨rfl, hb1⟩)
        go_returns
        exact ⟨by rw [hf.out]; simp, below_on hb hb1⟩
    · have hf := firstAt_none (fun x : TD => decide (x.n = s)) L fun i hi => hz i (by omega)
      replace hf : Hid _ := hf
      replace hz : Hid _ := hz
      go_wp2_with fail
      go_returns
      exact ⟨by rw [hf.out]; simp, hb⟩

set_option maxRecDepth 100000 in
theorem typeAt_any (a : Option Addr) (n c : Nat) (L : List TD) (s : ByteArray) (w : World) (hn : L.length = n) (hm : n ≤ maxLen) (hL : TDsAt w a L) :
    Calls Tryd.prog 36 #[.slice a n c, .string s] w fun e w' => e = .returned (.int .i64 (firstAt (fun x => decide (x.n = s)) L)) ∧ Below w.heap.size w w' := by
  have hmf : ∀ (fn : Fn) (first cap : Array Value) (w : World), (Instr.makeFunc fn first cap).run Tryd.prog w = .ok (.func fn first cap) w := fun _ _ _ _ => rfl
  have hb := below_new w (.cells #[.string s] 9)
  have hi := type_index a n c L s w.heap.size (w.alloc (.cells #[.string s] 9)) hn hm (hL.below hb) (by simp only [World.cell?, heap_alloc_new]; simp)
  replace hi : Hid _ := hi
  go_enter Tryd.func36, Tryd.ntmps36
  go_wp2_with (go_at_call 57; refine Calls.mono hi.out ?_; rintro e w1 ⟨rfl, hb1⟩)
  go_returns
  exact ⟨by simp, below_on hb hb1⟩

theorem prop_clo (xP : PD) (s : ByteArray) (g : Nat) (w : World) (hg : w.cell? ⟨g, 0, none⟩ = some (.string s)) :
    Calls Tryd.prog 60 #[.agg #[.string xP.n, .int .i64 xP.k], .pointer (some ⟨g, 0, none⟩)] w fun e w' => e = .returned (.bool (decide (xP.n = s))) ∧ Below w.heap.size w w' := by
  have hg2 := cell_keep (.cells #[.string xP.n, .int .i64 xP.k] 80) hg
  rw [← size_ne]
  go_enter Tryd.func60, Tryd.ntmps60
  go_wp2_with fail
  go_returns
  exact ⟨by simp, by go_grown⟩

set_option maxRecDepth 100000 in
theorem prop_index (a : Option Addr) (n c : Nat) (L : List PD) (s : ByteArray) (g : Nat) (w : World) (hn : L.length = n) (hm : n ≤ maxLen) (hL : PDsAt w a L) (hg : w.cell? ⟨g, 0, none⟩ = some (.string s)) :
    Calls Tryd.prog 59 #[.slice a n c, .func (.func 60) #[] #[.pointer (some ⟨g, 0, none⟩)]] w fun e w' => e = .returned (.int .i64 (firstAt (fun x => decide (x.n = s)) L)) ∧ Below w.heap.size w w' := by
  unfold maxLen at hm
  go_enter Tryd.func59, Tryd.ntmps59
  go_wp2_with fail
  go_loopw [8] (fun i wr => Below w.heap.size w wr ∧ ∃ j : Nat, j ≤ n ∧ i = .int .i64 j ∧ ∀ k, k < j → decide ((L.getD k default).n = s) = false) (fun i _ => n - (intOf i).toNat)
  case atStart => exact ⟨Below.refl _ _, 0, by omega, rfl, by simp⟩
  case round =>
    obtain ⟨hb, j, j1, rfl, hz⟩ := hrel
    have hLr := hL.below hb
    have hgr := (hb.cell (World.block_lt_of_cell? w _ hg)).trans hg
    by_cases hj : j < n
    · rcases hLr with rfl | ⟨x, o, rfl, hx⟩
      · simp at hn; omega
      have hxj := hx j (by omega)
      have hS := firstAt_some (fun x : PD => decide (x.n = s)) L j (by omega) hz
      obtain ⟨X, hX⟩ : ∃ X, L.getD j default = X := ⟨_, rfl⟩
      rw [hX] at hxj hS
      replace hX : Hid _ := hX
      have k0 := hxj.c0
      have k1 := hxj.c1
      have hc := fun w hg => prop_clo X s g w hg
      cases he : decide (X.n = s)
      · clear hS
        rw [he] at hc
        replace he : Hid _ := he
        replace hz : Hid _ := hz
        replace hc : Hid _ := hc
        go_wp2_with (go_at_call 60; refine (hc.out _ hgr).mono ?_; rintro e w1 ⟨rfl, hb1⟩)
        exact ⟨⟨below_on hb hb1, j + 1, by omega, rfl, fun k hk => by rcases Nat.lt_succ_iff_lt_or_eq.1 hk with h | rfl; exact hz.out k h; rw [hX.out]; exact he.out⟩, by show n - ((j : Int) + 1).toNat < n - (j : Int).toNat; omega⟩
      · have hf := hS he
        clear hS
        rw [he] at hc
        replace he : Hid _ := he
        replace hz : Hid _ := hz
        replace hc : Hid _ := hc
        replace hf : Hid _ := hf
        go_wp2_with (go_at_call 60; refine (hc.out _ hgr).mono ?_; rintro e w1 ⟨rfl, hb1⟩)
        go_returns
        exact ⟨by rw [hf.out]; simp, below_on hb hb1⟩
    · have hf := firstAt_none (fun x : PD => decide (x.n = s)) L fun i hi => hz i (by omega)
      replace hf : Hid _ := hf
      replace hz : Hid _ := hz
      go_wp2_with fail
      go_returns
      exact ⟨by rw [hf.out]; simp, hb⟩

set_option maxRecDepth 100000 in
theorem propAt_any (a : Option Addr) (n c : Nat) (L : List PD) (s : ByteArray) (w : World) (hn : L.length = n) (hm : n ≤ maxLen) (hL : PDsAt w a L) :
    Calls Tryd.prog 37 #[.slice a n c, .string s] w fun e w' => e = .returned (.int .i64 (firstAt (fun x => decide (x.n = s)) L)) ∧ Below w.heap.size w w' := by
  have hmf : ∀ (fn : Fn) (first cap : Array Value) (w : World), (Instr.makeFunc fn first cap).run Tryd.prog w = .ok (.func fn first cap) w := fun _ _ _ _ => rfl
  have hb := below_new w (.cells #[.string s] 9)
  have hi := prop_index a n c L s w.heap.size (w.alloc (.cells #[.string s] 9)) hn hm (hL.below hb) (by simp only [World.cell?, heap_alloc_new]; simp)
  replace hi : Hid _ := hi
  go_enter Tryd.func37, Tryd.ntmps37
  go_wp2_with (go_at_call 59; refine Calls.mono hi.out ?_; rintro e w1 ⟨rfl, hb1⟩)
  go_returns
  exact ⟨by simp, below_on hb hb1⟩
end Go.Proofs.YtmioohbailhppaaDoor
