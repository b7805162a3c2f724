/-
  What reads a text: its words, a reader, what is deferred.
-/
import Derived.Test.YtefenbonjepjgaaGreatDoorCat
import Derived.Test.YtefenbonjepjgaaGreatDoorQw
import Derived.Test.YtefenbonjepjgaaGreatDoorLay
import Derived.Test.YtefenbonjepjgaaGreatDoorLex
import Derived.Test.YtefenbonjepjgaaGreatDoorRow
namespace Go.Proofs.YtefenbonjepjgaaGreatDoor
open Go.ChangeShapes Go.WideShapes Go.ChangeAt Go.RowKit
set_option linter.unusedSimpArgs false
set_option linter.unusedVariables false

theorem lexG_few : ∀ (n k : Nat) (l : List UInt8) (acc : List Tk), (lexG n k l acc).1.length ≤ acc.length + n
  | 0, _, _, acc => Nat.le_refl _
  | n + 1, k, l, acc => by
    unfold lexG
    split
    · simp
    · split
      · have := lexG_few n (k + 1) (l.drop 1) acc; omega
      · split
        · have := lexG_few n (k + (wordL l).len) (l.drop (wordL l).len) (acc ++ [⟨(wordL l).k, (wordL l).t, (wordL l).n, k⟩]); simp at this; omega
        · simp
theorem lexL_few (l : List UInt8) : (lexL l).1.length ≤ 4096 := by
  unfold lexL
  split
  · simp
  · have := lexG_few l.length 0 l []; simp at this; omega
theorem words_of {w : World} {base : Nat} {v : Value} {L : List Tk} (h : w.ownsRow base 52 4 v L.length (rowK L)) :
    ∃ p cap, v = .slice p L.length cap ∧ L.length ≤ cap ∧ ∀ w' : World, (∀ k, base ≤ k → k < w.heap.size → w'.heap[k]? = w.heap[k]?) → WsAt w' w.heap.size p L := by
  have hh := h
  obtain ⟨h1, ⟨e1, e2⟩ | ⟨g, cap, cur, e1, hbg, e3, e4, _⟩⟩ := hh
  · exact ⟨none, 0, by rw [e1, e2], by omega, fun _ _ => .inl (List.length_eq_zero_iff.1 e2)⟩
  · have hg : g < w.heap.size := by
      rcases Nat.lt_or_ge g w.heap.size with h | h
      · exact h
      · rw [Array.getElem?_eq_none h] at e3; cases e3
    subst e1
    refine ⟨_, cap, rfl, e4, fun w' hw => .inr ⟨g, 0, rfl, hg, fun i hi => ?_⟩⟩
    have hk := hw g hbg hg
    have hc : ∀ q, q < 4 → w'.cell? ⟨g, i * 4 + q, none⟩ = (cellsK (L.getD i default))[q]? := fun q hq => by
      rw [show w'.cell? ⟨g, i * 4 + q, none⟩ = w.cell? ⟨g, i * 4 + q, none⟩ by simp only [World.cell?, hk], h.cellAt (i * 4 + q) (by omega), rowK_at L i q hi hq]
    simp only [Nat.zero_add]
    exact ⟨hc 0 (by omega), hc 1 (by omega), hc 2 (by omega), hc 3 (by omega)⟩
/-- The words behind a call of Lex. -/
theorem Lex_at (s : ByteArray) (hs : s.size ≤ maxLen) (w : World) (hT : Tabs w) :
    Calls Tryz.prog 17 #[.string s] w fun e w' => ∃ p cap, e = .returned (.tuple #[.slice p (lexL s.data.toList).1.length cap, .int .i64 (lexL s.data.toList).2.1, .int .i64 (lexL s.data.toList).2.2]) ∧ (lexL s.data.toList).1.length ≤ cap ∧ (∀ w'' : World, (∀ k, w.heap.size ≤ k → k < w'.heap.size → w''.heap[k]? = w'.heap[k]?) → WsAt w'' w'.heap.size p (lexL s.data.toList).1) ∧ Below w.heap.size w w' :=
  (Lex_any s hs w hT).mono fun e w' ⟨v, h1, h2, h3⟩ => by
    obtain ⟨p, cap, rfl, h5, h6⟩ := words_of h2
    exact ⟨p, cap, h1, h5, h6, h3⟩
/-- A block's cells. -/
structure Blk (w : World) (R : Nat) (vs : List Value) : Prop where
  lt : R < w.heap.size
  c : ∀ i, i < vs.length → w.cell? ⟨R, i, none⟩ = vs[i]?
  fr : ∀ j, w.frozen? ⟨R, j, none⟩ = false
theorem Blk.new (w : World) (vs : List Value) (t : TypeId) : Blk (w.alloc (.cells vs.toArray t)) w.heap.size vs :=
  ⟨by simp, fun i hi => by simp [World.cell?_alloc_new], fun j => by simp [go_sem]⟩
theorem Blk.below {w w' : World} {R b : Nat} {vs : List Value} (h : Blk w R vs) (hR : R < b) (hb : Below b w w') : Blk w' R vs :=
  ⟨Nat.lt_of_lt_of_le h.lt hb.size, fun i hi => by rw [← h.c i hi]; simp only [World.cell?, hb.block R hR], fun j => by rw [← h.fr j]; simp only [World.frozen?, hb.block R hR]⟩
theorem Blk.grown {w w' : World} {R : Nat} {vs : List Value} (h : Blk w R vs) (hb : Below w.heap.size w w') : Blk w' R vs := h.below h.lt hb
theorem Blk.only {w w' : World} {S : Nat → Prop} {R : Nat} {vs : List Value} (h : Blk w R vs) (hS : ¬ S R) (ho : Only S w w') : Blk w' R vs :=
  ⟨Nat.lt_of_lt_of_le h.lt ho.size, fun i hi => (ho.cell h.lt hS).trans (h.c i hi), fun j => (ho.frozen h.lt hS).trans (h.fr j)⟩
theorem Blk.other {w : World} {R : Nat} {vs : List Value} (h : Blk w R vs) (R' j : Nat) (v : Value) (hne : R' ≠ R) : Blk (w.setCell ⟨R', j, none⟩ v) R vs :=
  ⟨by simp [World.setCell]; exact h.lt, fun i hi => (World.cell?_setCell_other _ _ _ _ (fun e => hne (congrArg Addr.block e))).trans (h.c i hi), fun j' => (set_fr _ _ _ _).trans (h.fr j')⟩
theorem Blk.set {w : World} {R : Nat} {vs : List Value} (h : Blk w R vs) (j : Nat) (v : Value) : Blk (w.setCell ⟨R, j, none⟩ v) R (vs.set j v) :=
  ⟨by simp [World.setCell]; exact h.lt, fun i hi => by
    have hi' : i < vs.length := by simpa using hi
    rw [List.getElem?_set]
    split
    · rename_i e
      subst e
      rw [if_pos hi']
      exact set_same ((h.c j hi').trans (List.getElem?_eq_getElem hi'))
    · rename_i e
      exact (set_at _ _ _ (fun x => e x)).trans (h.c i hi'), fun j' => (set_fr _ _ _ _).trans (h.fr j')⟩
theorem Blk.drew {w : World} {R : Nat} {vs : List Value} (h : Blk w R vs) : Blk w.drew R vs := ⟨h.lt, h.c, h.fr⟩
theorem Only.imp {S S' : Nat → Prop} {w w' : World} (hS : ∀ k, S k → S' k) (h : Only S w w') : Only S' w w' := ⟨h.os, h.tape, h.output, h.size, fun k hk hn => h.block k hk (fun x => hn (hS k x))⟩
theorem Only.set {S : Nat → Prop} {a w : World} (h : Only S a w) (R j : Nat) (v : Value) (hR : S R) : Only S a (w.setCell ⟨R, j, none⟩ v) :=
  ⟨h.os, h.tape, h.output, by simp [World.setCell]; exact h.size, fun k hk hn => (Below.heap_setCell _ _ _ _ (fun e => hn (by rw [e]; exact hR))).trans (h.block k hk hn)⟩
theorem Below.by_only {S : Nat → Prop} {b : Nat} {a w w' : World} (h : Below b a w) (hz : b ≤ w.heap.size) (ho : Only S w w') (hS : ∀ k, S k → b ≤ k) : Below b a w' :=
  ⟨ho.os.trans h.os, ho.tape.trans h.tape, ho.output.trans h.output, Nat.le_trans h.size ho.size, fun k hk => (ho.block k (by omega) (fun x => by have := hS k x; omega)).trans (h.block k hk)⟩
theorem start3 {w w1 : World} (zs : List Value) (t : TypeId) (hb : Below (((w.alloc (.cells zs.toArray t)).alloc (.cells #[.int .i64 0] 3)).alloc (.cells #[.int .i64 0] 29)).heap.size (((w.alloc (.cells zs.toArray t)).alloc (.cells #[.int .i64 0] 3)).alloc (.cells #[.int .i64 0] 29)) w1) :
    Blk w1 w.heap.size zs ∧ Blk w1 (w.heap.size + 1) [.int .i64 0] ∧ Blk w1 (w.heap.size + 1 + 1) [.int .i64 0] ∧ Below w.heap.size w w1 := by
  have h1 := Blk.new w zs t
  have h2 := Blk.new (w.alloc (.cells zs.toArray t)) [.int .i64 0] 3
  have h3 := Blk.new ((w.alloc (.cells zs.toArray t)).alloc (.cells #[.int .i64 0] 3)) [.int .i64 0] 29
  have b2 := below_new (w.alloc (.cells zs.toArray t)) (.cells #[.int .i64 0] 3)
  have b3 := below_new ((w.alloc (.cells zs.toArray t)).alloc (.cells #[.int .i64 0] 3)) (.cells #[.int .i64 0] 29)
  have e2 : (w.alloc (.cells zs.toArray t)).heap.size = w.heap.size + 1 := by simp
  have e3 : ((w.alloc (.cells zs.toArray t)).alloc (.cells #[.int .i64 0] 3)).heap.size = w.heap.size + 1 + 1 := by simp
  rw [e2] at h2
  rw [e3] at h3
  refine ⟨((h1.grown b2).grown b3).grown hb, (h2.grown b3).grown hb, h3.grown hb, ?_⟩
  have b0 : Below w.heap.size w (((w.alloc (.cells zs.toArray t)).alloc (.cells #[.int .i64 0] 3)).alloc (.cells #[.int .i64 0] 29)) := by go_grown
  exact ⟨hb.os.trans b0.os, hb.tape.trans b0.tape, hb.output.trans b0.output, Nat.le_trans b0.size hb.size, fun k hk => (hb.block k (by simp; omega)).trans (b0.block k hk)⟩
/-- What a text is read as. -/
def Gives {α : Type} (w : World) (r : Res α) (z : Value) (V : α → Value → World → Prop) (e : Ending) (w' : World) : Prop :=
  Below w.heap.size w w' ∧ match r with
    | .ok x _ => ∃ v, e = .returned (.tuple #[v, .int .i64 0, .int .i64 0]) ∧ V x v w'
    | .bad a y => e = .returned (.tuple #[z, .int .i64 a, .int .i64 y])

theorem res24 {tmps : Array Value} {w : World} {R4 R5 R6 : Nat} {v0 v1 v2 v3 v4 v5 v6 v7 v8 a y : Value} (h4 : tmps.getD 4 undef = .pointer (some ⟨R4, 0, none⟩)) (h5 : tmps.getD 5 undef = .pointer (some ⟨R5, 0, none⟩)) (h6 : tmps.getD 6 undef = .pointer (some ⟨R6, 0, none⟩))
    (c0 : w.cell? ⟨R4, 0, none⟩ = some v0) (c1 : w.cell? ⟨R4, 1, none⟩ = some v1) (c2 : w.cell? ⟨R4, 2, none⟩ = some v2) (c3 : w.cell? ⟨R4, 3, none⟩ = some v3) (c4 : w.cell? ⟨R4, 4, none⟩ = some v4) (c5 : w.cell? ⟨R4, 5, none⟩ = some v5) (c6 : w.cell? ⟨R4, 6, none⟩ = some v6) (c7 : w.cell? ⟨R4, 7, none⟩ = some v7) (c8 : w.cell? ⟨R4, 8, none⟩ = some v8) (ca : w.cell? ⟨R5, 0, none⟩ = some a) (cy : w.cell? ⟨R6, 0, none⟩ = some y) :
    (results Tryz.f24 tmps).run Tryz.prog w = .ok (.tuple #[.agg #[v0, v1, v2, v3, v4, v5, v6, v7, v8], a, y]) w := by
  have h4' : tmps[4]?.getD undef = .pointer (some ⟨R4, 0, none⟩) := by simpa using h4
  have h5' : tmps[5]?.getD undef = .pointer (some ⟨R5, 0, none⟩) := by simpa using h5
  have h6' : tmps[6]?.getD undef = .pointer (some ⟨R6, 0, none⟩) := by simpa using h6
  simp [results, Tryz.results24, h4', h5', h6', go_sem, c0, c1, c2, c3, c4, c5, c6, c7, c8, ca, cy]
theorem put24 {w : World} {R : Nat} {x0 x1 x2 x3 x4 x5 x6 x7 x8 : Value} (h : Blk w R [x0, x1, x2, x3, x4, x5, x6, x7, x8]) (u0 u1 u2 u3 u4 u5 u6 u7 u8 : Value) : Blk ((((((((((w.setCell ⟨R, 0, none⟩ u0).setCell ⟨R, 1, none⟩ u1).setCell ⟨R, 2, none⟩ u2).setCell ⟨R, 3, none⟩ u3).setCell ⟨R, 4, none⟩ u4).setCell ⟨R, 5, none⟩ u5).setCell ⟨R, 6, none⟩ u6).setCell ⟨R, 7, none⟩ u7).setCell ⟨R, 8, none⟩ u8)) R [u0, u1, u2, u3, u4, u5, u6, u7, u8] := (((((((((h.set 0 u0).set 1 u1).set 2 u2).set 3 u3).set 4 u4).set 5 u5).set 6 u6).set 7 u7).set 8 u8)
theorem putx24 {w : World} {R R' : Nat} {vs : List Value} (h : Blk w R' vs) (hne : R ≠ R') (u0 u1 u2 u3 u4 u5 u6 u7 u8 : Value) : Blk ((((((((((w.setCell ⟨R, 0, none⟩ u0).setCell ⟨R, 1, none⟩ u1).setCell ⟨R, 2, none⟩ u2).setCell ⟨R, 3, none⟩ u3).setCell ⟨R, 4, none⟩ u4).setCell ⟨R, 5, none⟩ u5).setCell ⟨R, 6, none⟩ u6).setCell ⟨R, 7, none⟩ u7).setCell ⟨R, 8, none⟩ u8)) R' vs := (((((((((h.other R 0 u0 hne).other R 1 u1 hne).other R 2 u2 hne).other R 3 u3 hne).other R 4 u4 hne).other R 5 u5 hne).other R 6 u6 hne).other R 7 u7 hne).other R 8 u8 hne)
theorem puto24 {S : Nat → Prop} {a w : World} (h : Only S a w) {R : Nat} (hR : S R) (u0 u1 u2 u3 u4 u5 u6 u7 u8 : Value) : Only S a ((((((((((w.setCell ⟨R, 0, none⟩ u0).setCell ⟨R, 1, none⟩ u1).setCell ⟨R, 2, none⟩ u2).setCell ⟨R, 3, none⟩ u3).setCell ⟨R, 4, none⟩ u4).setCell ⟨R, 5, none⟩ u5).setCell ⟨R, 6, none⟩ u6).setCell ⟨R, 7, none⟩ u7).setCell ⟨R, 8, none⟩ u8)) := (((((((((h.set R 0 u0 hR).set R 1 u1 hR).set R 2 u2 hR).set R 3 u3 hR).set R 4 u4 hR).set R 5 u5 hR).set R 6 u6 hR).set R 7 u7 hR).set R 8 u8 hR)
theorem caught24 {w w2 : World} {act : Act} {a1 : Nat} {y1 a0 y0 : Int} {V : Ex → Value → World → Prop} (hd : act.defers = [{ target := .fn (.func 51) #[.pointer (some ⟨w.heap.size + 1, 0, none⟩), .pointer (some ⟨w.heap.size + 1 + 1, 0, none⟩)], args := #[] }])
    (h4 : act.tmps.getD 4 undef = .pointer (some ⟨w.heap.size, 0, none⟩)) (h5 : act.tmps.getD 5 undef = .pointer (some ⟨w.heap.size + 1, 0, none⟩)) (h6 : act.tmps.getD 6 undef = .pointer (some ⟨w.heap.size + 1 + 1, 0, none⟩))
    (hB : Below w.heap.size w w2) (G4 : Blk w2 w.heap.size [.int .i64 0, .slice none 0 0, .string ⟨#[]⟩, .string ⟨#[]⟩, .int .i64 0, .bool false, .int .i64 0, .string ⟨#[]⟩, .slice none 0 0]) (G5 : Blk w2 (w.heap.size + 1) [.int .i64 a0]) (G6 : Blk w2 (w.heap.size + 1 + 1) [.int .i64 y0]) :
    bodyPostD Tryz.prog Tryz.f24 (Gives w (.bad a1 y1) (.agg #[.int .i64 0, .slice none 0 0, .string ⟨#[]⟩, .string ⟨#[]⟩, .int .i64 0, .bool false, .int .i64 0, .string ⟨#[]⟩, .slice none 0 0]) V) (.panic [{ v := .iface 91 (refV a1 y1), recovered := false }]) act w2 := by
  show Leaves Tryz.prog Tryz.f24 act.tmps _ act.defers _ w2
  rw [hd]
  have l4 := G4.lt
  refine leaves_cons (f := 51) (args := #[.pointer (some ⟨w.heap.size + 1, 0, none⟩), .pointer (some ⟨w.heap.size + 1 + 1, 0, none⟩)]) (by simp) (by simp [go_sem]) ?_
  refine (catch51 (w.heap.size + 1) (w.heap.size + 1 + 1) a1 y1 a0 y0 [] w2 (by omega) (G5.c 0 (by simp)) (G6.c 0 (by simp)) (G5.fr 0) (G6.fr 0)).mono ?_
  rintro e u' w3 ⟨rfl, rfl, ho, ha, hy⟩
  have G := G4.only (by omega) ho
  exact ⟨.tuple #[.agg #[.int .i64 0, .slice none 0 0, .string ⟨#[]⟩, .string ⟨#[]⟩, .int .i64 0, .bool false, .int .i64 0, .string ⟨#[]⟩, .slice none 0 0], .int .i64 a1, .int .i64 y1], res24 h4 h5 h6 (G.c 0 (by simp)) (G.c 1 (by simp)) (G.c 2 (by simp)) (G.c 3 (by simp)) (G.c 4 (by simp)) (G.c 5 (by simp)) (G.c 6 (by simp)) (G.c 7 (by simp)) (G.c 8 (by simp)) ha hy, Below.by_only hB (by omega) ho (fun k hk => by omega), rfl⟩
theorem refused24 {w w5 : World} {act : Act} {a1 : Nat} {y1 : Int} {V : Ex → Value → World → Prop} (hd : act.defers = [])
    (h4 : act.tmps.getD 4 undef = .pointer (some ⟨w.heap.size, 0, none⟩)) (h5 : act.tmps.getD 5 undef = .pointer (some ⟨w.heap.size + 1, 0, none⟩)) (h6 : act.tmps.getD 6 undef = .pointer (some ⟨w.heap.size + 1 + 1, 0, none⟩))
    (hB : Below w.heap.size w w5) (G : Blk w5 w.heap.size [.int .i64 0, .slice none 0 0, .string ⟨#[]⟩, .string ⟨#[]⟩, .int .i64 0, .bool false, .int .i64 0, .string ⟨#[]⟩, .slice none 0 0]) (G5 : Blk w5 (w.heap.size + 1) [.int .i64 a1]) (G6 : Blk w5 (w.heap.size + 1 + 1) [.int .i64 y1]) :
    bodyPostD Tryz.prog Tryz.f24 (Gives w (.bad a1 y1) (.agg #[.int .i64 0, .slice none 0 0, .string ⟨#[]⟩, .string ⟨#[]⟩, .int .i64 0, .bool false, .int .i64 0, .string ⟨#[]⟩, .slice none 0 0]) V) .ret act w5.drew := by
  show Leaves Tryz.prog Tryz.f24 act.tmps _ act.defers _ w5.drew
  rw [hd]
  have G' := G.drew
  exact ⟨.tuple #[.agg #[.int .i64 0, .slice none 0 0, .string ⟨#[]⟩, .string ⟨#[]⟩, .int .i64 0, .bool false, .int .i64 0, .string ⟨#[]⟩, .slice none 0 0], .int .i64 a1, .int .i64 y1], res24 h4 h5 h6 (G'.c 0 (by simp)) (G'.c 1 (by simp)) (G'.c 2 (by simp)) (G'.c 3 (by simp)) (G'.c 4 (by simp)) (G'.c 5 (by simp)) (G'.c 6 (by simp)) (G'.c 7 (by simp)) (G'.c 8 (by simp)) (G5.drew.c 0 (by simp)) (G6.drew.c 0 (by simp)), ⟨hB.os, hB.tape, hB.output, hB.size, hB.block⟩, rfl⟩
theorem ended24 {w w5 : World} {act : Act} {x : Ex} {V : Ex → Value → World → Prop} {z u0 u1 u2 u3 u4 u5 u6 u7 u8 : Value} (hd : act.defers = [{ target := .fn (.func 51) #[.pointer (some ⟨w.heap.size + 1, 0, none⟩), .pointer (some ⟨w.heap.size + 1 + 1, 0, none⟩)], args := #[] }])
    (h4 : act.tmps.getD 4 undef = .pointer (some ⟨w.heap.size, 0, none⟩)) (h5 : act.tmps.getD 5 undef = .pointer (some ⟨w.heap.size + 1, 0, none⟩)) (h6 : act.tmps.getD 6 undef = .pointer (some ⟨w.heap.size + 1 + 1, 0, none⟩))
    (hB : Below w.heap.size w w5) (G4 : Blk w5 w.heap.size [u0, u1, u2, u3, u4, u5, u6, u7, u8]) (G5 : Blk w5 (w.heap.size + 1) [.int .i64 0]) (G6 : Blk w5 (w.heap.size + 1 + 1) [.int .i64 0]) (hV : ∀ w6, Below w5.heap.size w5 w6 → V x (.agg #[u0, u1, u2, u3, u4, u5, u6, u7, u8]) w6) :
    bodyPostD Tryz.prog Tryz.f24 (Gives w (.ok x []) z V) .ret act w5 := by
  show Leaves Tryz.prog Tryz.f24 act.tmps _ act.defers _ w5
  rw [hd]
  have l4 := G4.lt
  refine leaves_cons (f := 51) (args := #[.pointer (some ⟨w.heap.size + 1, 0, none⟩), .pointer (some ⟨w.heap.size + 1 + 1, 0, none⟩)]) (by simp) (by simp [go_sem]) ?_
  refine (idle51 (w.heap.size + 1) (w.heap.size + 1 + 1) w5).mono ?_
  rintro e u' w6 ⟨rfl, rfl, hb⟩
  have G := G4.grown hb
  exact ⟨.tuple #[.agg #[u0, u1, u2, u3, u4, u5, u6, u7, u8], .int .i64 0, .int .i64 0], res24 h4 h5 h6 (G.c 0 (by simp)) (G.c 1 (by simp)) (G.c 2 (by simp)) (G.c 3 (by simp)) (G.c 4 (by simp)) (G.c 5 (by simp)) (G.c 6 (by simp)) (G.c 7 (by simp)) (G.c 8 (by simp)) ((G5.grown hb).c 0 (by simp)) ((G6.grown hb).c 0 (by simp)), Below.by_only hB (by omega) (Below.only (fun k => w.heap.size ≤ k) hb) (fun k hk => hk), _, rfl, hV w6 hb⟩
set_option maxRecDepth 100000 in
set_option maxHeartbeats 6000000 in
theorem read24 (s : ByteArray) (hs : s.size ≤ maxLen) (w : World) (hT : Tabs w) :
    Calls Tryz.prog 24 #[.string s, .func (.func 25) #[] #[]] w (Gives w (parseEL s.data.toList) (.agg #[.int .i64 0, .slice none 0 0, .string ⟨#[]⟩, .string ⟨#[]⟩, .int .i64 0, .bool false, .int .i64 0, .string ⟨#[]⟩, .slice none 0 0]) (IsEx w.heap.size)) := by
  have hmf : ∀ (fn : Fn) (first cap : Array Value) (w : World), (Instr.makeFunc fn first cap).run Tryz.prog w = .ok (.func fn first cap) w := fun _ _ _ _ => rfl
  have b0 : Below w.heap.size w (((w.alloc (.cells #[.int .i64 0, .slice none 0 0, .string ⟨#[]⟩, .string ⟨#[]⟩, .int .i64 0, .bool false, .int .i64 0, .string ⟨#[]⟩, .slice none 0 0] 40)).alloc (.cells #[.int .i64 0] 3)).alloc (.cells #[.int .i64 0] 29)) := by go_grown
  have hL := fun (_ : Unit) => Lex_at s hs (((w.alloc (.cells #[.int .i64 0, .slice none 0 0, .string ⟨#[]⟩, .string ⟨#[]⟩, .int .i64 0, .bool false, .int .i64 0, .string ⟨#[]⟩, .slice none 0 0] 40)).alloc (.cells #[.int .i64 0] 3)).alloc (.cells #[.int .i64 0] 29)) (hT.below b0)
  have hl : s.data.toList.length = s.size := Array.length_toList
  generalize hF : parseEL s.data.toList = F
  unfold parseEL at hF
  rw [hl] at hF
  have hfew := lexL_few s.data.toList
  generalize lexL s.data.toList = Y at *
  obtain ⟨L, a, y⟩ := Y
  dsimp only at hL hF hfew
  replace hL : Hid _ := hL
  go_enter_defers Tryz.func24, Tryz.ntmps24
  go_upto_region 2 with ((have hh := hL.out (); go_at_call 17; (with_reducible refine Calls.mono hh ?_); clear hh hL; rintro e w1 ⟨p, cap, rfl, hcap, hws, hb1⟩; obtain ⟨B4, B5, B6, hb⟩ := start3 [.int .i64 0, .slice none 0 0, .string ⟨#[]⟩, .string ⟨#[]⟩, .int .i64 0, .bool false, .int .i64 0, .string ⟨#[]⟩, .slice none 0 0] 40 hb1; have c5 : w1.cell? ⟨w.heap.size + 1, 0, none⟩ = some (.int .i64 0) := (B5.c 0 (by decide)); have c6 : w1.cell? ⟨w.heap.size + 1 + 1, 0, none⟩ = some (.int .i64 0) := (B6.c 0 (by decide)); have f5 := B5.fr 0; have f6 := B6.fr 0))
  have hfz : ∀ j, w1.frozen? ⟨w.heap.size, j, none⟩ = false := B4.fr
  have D4 := (B4.other (w.heap.size + 1) 0 (.int .i64 a) (by omega)).other (w.heap.size + 1 + 1) 0 (.int .i64 y) (by omega)
  have D5 := (B5.set 0 (.int .i64 a)).other (w.heap.size + 1 + 1) 0 (.int .i64 y) (by omega)
  have D6 := (B6.other (w.heap.size + 1) 0 (.int .i64 a) (by omega)).set 0 (.int .i64 y)
  have hZ := (hb.setCell (p := ⟨w.heap.size + 1, 0, none⟩) (Nat.le_succ _) (.int .i64 a)).setCell (p := ⟨w.heap.size + 1 + 1, 0, none⟩) (by show _ ≤ _ + 1 + 1; omega) (.int .i64 y)
  have hz2 : ((w1.setCell ⟨w.heap.size + 1, 0, none⟩ (.int .i64 a)).setCell ⟨w.heap.size + 1 + 1, 0, none⟩ (.int .i64 y)).heap.size = w1.heap.size := by simp [World.setCell]
  have hws2 : ∀ o : Obj, WsAt (((w1.setCell ⟨w.heap.size + 1, 0, none⟩ (.int .i64 a)).setCell ⟨w.heap.size + 1 + 1, 0, none⟩ (.int .i64 y)).alloc o) w1.heap.size p L := fun o => hws _ fun k h1 h2 => by
    have h1' : w.heap.size + 3 ≤ k := by simpa using h1
    rw [(below_new _ o).block k (by rw [hz2]; exact h2), Below.heap_setCell _ _ _ _ (by show k ≠ w.heap.size + 1 + 1; omega), Below.heap_setCell _ _ _ _ (by show k ≠ w.heap.size + 1; omega)]
  rw [← hz2] at hws2
  clear hb hb1 hws B4 B5 B6 c5 c6 f5 f6 hz2 hfz b0
  generalize (w1.setCell ⟨w.heap.size + 1, 0, none⟩ (.int .i64 a)).setCell ⟨w.heap.size + 1 + 1, 0, none⟩ (.int .i64 y) = W at *
  have z0 : W.cell? ⟨w.heap.size, 0, none⟩ = some (.int .i64 0) := D4.c 0 (by decide)
  have z1 : W.cell? ⟨w.heap.size, 1, none⟩ = some (.slice none 0 0) := D4.c 1 (by decide)
  have z2 : W.cell? ⟨w.heap.size, 2, none⟩ = some (.string ⟨#[]⟩) := D4.c 2 (by decide)
  have z3 : W.cell? ⟨w.heap.size, 3, none⟩ = some (.string ⟨#[]⟩) := D4.c 3 (by decide)
  have z4 : W.cell? ⟨w.heap.size, 4, none⟩ = some (.int .i64 0) := D4.c 4 (by decide)
  have z5 : W.cell? ⟨w.heap.size, 5, none⟩ = some (.bool false) := D4.c 5 (by decide)
  have z6 : W.cell? ⟨w.heap.size, 6, none⟩ = some (.int .i64 0) := D4.c 6 (by decide)
  have z7 : W.cell? ⟨w.heap.size, 7, none⟩ = some (.string ⟨#[]⟩) := D4.c 7 (by decide)
  have z8 : W.cell? ⟨w.heap.size, 8, none⟩ = some (.slice none 0 0) := D4.c 8 (by decide)
  have xa : W.cell? ⟨w.heap.size + 1, 0, none⟩ = some (.int .i64 a) := D5.c 0 (by simp)
  have xy : W.cell? ⟨w.heap.size + 1 + 1, 0, none⟩ = some (.int .i64 y) := D6.c 0 (by simp)
  have l4 := D4.lt
  have l6 := D6.lt
  replace D5 : Blk W (w.heap.size + 1) [.int .i64 a] := D5
  replace D6 : Blk W (w.heap.size + 1 + 1) [.int .i64 y] := D6
  have x4 := D4.fr
  have x5 := D5.fr
  have x6 := D6.fr
  by_cases hy : y = 0
  · subst hy
    rw [if_pos rfl] at hF
    have hR : Rd (W.alloc (.cells #[.slice p L.length cap, .int .i64 s.size, .int .i64 0] 94)) W.heap.size s.size 0 L := ⟨⟨p, cap, by simp [go_sem], hcap, hws2 _⟩, by simp [go_sem], by simp [go_sem], fun j => by simp [go_sem], hfew, by omega⟩
    have C4 := D4.grown (below_new W (.cells #[.slice p L.length cap, .int .i64 s.size, .int .i64 0] 94))
    have C5 := D5.grown (below_new W (.cells #[.slice p L.length cap, .int .i64 s.size, .int .i64 0] 94))
    have C6 := D6.grown (below_new W (.cells #[.slice p L.length cap, .int .i64 s.size, .int .i64 0] 94))
    have oW : Only (fun k => w.heap.size ≤ k ∧ k ≤ W.heap.size) W (W.alloc (.cells #[.slice p L.length cap, .int .i64 s.size, .int .i64 0] 94)) := Below.only _ (below_new _ _)
    have hE := fun (_ : Unit) => (lay_reads W.heap.size s.size (L.length + 1)).2.2 _ 0 L (Nat.lt_succ_self _) hR
    clear hws2
    cases hr : (lay s.size (L.length + 1)).2.2 0 L with
    | bad a1 y1 =>
      rw [hr] at hE
      rw [show exprL s.size L = _ from hr] at hF
      have hF' : Res.bad a1 y1 = F := hF
      subst hF'
      replace hE : Hid _ := hE
      go_wp2_with (go_at_call 25; refine Calls.mono (hE.out ()) ?_; rintro e w2 ⟨ho, rfl⟩)
      have ho' := Only.imp (S' := fun k => w.heap.size ≤ k ∧ k ≤ W.heap.size) (fun k hk => ⟨by omega, by omega⟩) ho
      exact caught24 rfl rfl rfl rfl (Below.by_only (Below.by_only hZ (by omega) oW (fun k hk => hk.1)) (by simp; omega) ho' (fun k hk => hk.1)) (C4.only (by omega) ho) (C5.only (by omega) ho) (C6.only (by omega) ho)
    | ok x M =>
      rw [hr] at hE
      rw [show exprL s.size L = _ from hr] at hF
      have hF' : (if M = [] then Res.ok x [] else .bad (placeL s.size M) 81) = F := hF
      clear hF
      replace hE : Hid _ := hE
      go_upto_region 7 with ((have hh := hE.out (); go_at_call 25; (with_reducible refine Calls.mono hh ?_); clear hh hE; rintro e w2 ⟨ho, v, rfl, ⟨sp, sn, sc, rfl, hx⟩, hr2⟩; skip))
      have ho' := Only.imp (S' := fun k => w.heap.size ≤ k ∧ k ≤ W.heap.size) (fun k hk => ⟨by omega, by omega⟩) ho
      have hZ2 := Below.by_only (Below.by_only hZ (by omega) oW (fun k hk => hk.1)) (by simp; omega) ho' (fun k hk => hk.1)
      have l2 := hr2.lt
      have hr3 := hr2.below (below_new w2 (.cells #[.int .i64 (opE x), .slice sp sn sc, .string (txt (nmE x)), .string (txt (prE x)), .int .i64 (kE x), .bool (bE x), .int .i64 (nE x), .string (txt (tE x)), .slice none 0 0] 40))
      have hM2 := fun (_ : Unit) => mustEnd_any hr3
      have B9 := Blk.new w2 [.int .i64 (opE x), .slice sp sn sc, .string (txt (nmE x)), .string (txt (prE x)), .int .i64 (kE x), .bool (bE x), .int .i64 (nE x), .string (txt (tE x)), .slice none 0 0] 40
      have E4 := (C4.only (by omega) ho).grown (below_new w2 (.cells #[.int .i64 (opE x), .slice sp sn sc, .string (txt (nmE x)), .string (txt (prE x)), .int .i64 (kE x), .bool (bE x), .int .i64 (nE x), .string (txt (tE x)), .slice none 0 0] 40))
      have E5 := (C5.only (by omega) ho).grown (below_new w2 (.cells #[.int .i64 (opE x), .slice sp sn sc, .string (txt (nmE x)), .string (txt (prE x)), .int .i64 (kE x), .bool (bE x), .int .i64 (nE x), .string (txt (tE x)), .slice none 0 0] 40))
      have E6 := (C6.only (by omega) ho).grown (below_new w2 (.cells #[.int .i64 (opE x), .slice sp sn sc, .string (txt (nmE x)), .string (txt (prE x)), .int .i64 (kE x), .bool (bE x), .int .i64 (nE x), .string (txt (tE x)), .slice none 0 0] 40))
      have o2 : Only (fun k => w.heap.size ≤ k ∧ k ≤ W.heap.size) w2 (w2.alloc (.cells #[.int .i64 (opE x), .slice sp sn sc, .string (txt (nmE x)), .string (txt (prE x)), .int .i64 (kE x), .bool (bE x), .int .i64 (nE x), .string (txt (tE x)), .slice none 0 0] 40)) := Below.only _ (below_new _ _)
      have hZ3 := Below.by_only hZ2 (by omega) o2 (fun k hk => hk.1)
      by_cases hM : M = []
      · rw [if_pos hM] at hF' hM2
        subst hF'
        replace hM2 : Hid _ := hM2
        go_upto_region 8 with ((have hh := hM2.out (); go_at_call 31; (with_reducible refine Calls.mono hh ?_); clear hh hM2; rintro e w3 ⟨ho3, v3', rfl, hv3, hr4⟩))
        have ho3' := Only.imp (S' := fun k => w.heap.size ≤ k ∧ k ≤ W.heap.size) (fun k hk => ⟨by omega, by omega⟩) ho3
        have hZ4 := Below.by_only hZ3 (by simp; omega) ho3' (fun k hk => hk.1)
        have H4 := E4.only (by omega) ho3
        have H5 := E5.only (by omega) ho3
        have H6 := E6.only (by omega) ho3
        have H9 := B9.only (by omega) ho3
        have q40 : w3.cell? ⟨w.heap.size, 0, none⟩ = some (.int .i64 0) := H4.c 0 (by decide)
        have q90 : w3.cell? ⟨w2.heap.size, 0, none⟩ = some (.int .i64 (opE x)) := H9.c 0 (by simp)
        have q41 : w3.cell? ⟨w.heap.size, 1, none⟩ = some (.slice none 0 0) := H4.c 1 (by decide)
        have q91 : w3.cell? ⟨w2.heap.size, 1, none⟩ = some (.slice sp sn sc) := H9.c 1 (by simp)
        have q42 : w3.cell? ⟨w.heap.size, 2, none⟩ = some (.string ⟨#[]⟩) := H4.c 2 (by decide)
        have q92 : w3.cell? ⟨w2.heap.size, 2, none⟩ = some (.string (txt (nmE x))) := H9.c 2 (by simp)
        have q43 : w3.cell? ⟨w.heap.size, 3, none⟩ = some (.string ⟨#[]⟩) := H4.c 3 (by decide)
        have q93 : w3.cell? ⟨w2.heap.size, 3, none⟩ = some (.string (txt (prE x))) := H9.c 3 (by simp)
        have q44 : w3.cell? ⟨w.heap.size, 4, none⟩ = some (.int .i64 0) := H4.c 4 (by decide)
        have q94 : w3.cell? ⟨w2.heap.size, 4, none⟩ = some (.int .i64 (kE x)) := H9.c 4 (by simp)
        have q45 : w3.cell? ⟨w.heap.size, 5, none⟩ = some (.bool false) := H4.c 5 (by decide)
        have q95 : w3.cell? ⟨w2.heap.size, 5, none⟩ = some (.bool (bE x)) := H9.c 5 (by simp)
        have q46 : w3.cell? ⟨w.heap.size, 6, none⟩ = some (.int .i64 0) := H4.c 6 (by decide)
        have q96 : w3.cell? ⟨w2.heap.size, 6, none⟩ = some (.int .i64 (nE x)) := H9.c 6 (by simp)
        have q47 : w3.cell? ⟨w.heap.size, 7, none⟩ = some (.string ⟨#[]⟩) := H4.c 7 (by decide)
        have q97 : w3.cell? ⟨w2.heap.size, 7, none⟩ = some (.string (txt (tE x))) := H9.c 7 (by simp)
        have q48 : w3.cell? ⟨w.heap.size, 8, none⟩ = some (.slice none 0 0) := H4.c 8 (by decide)
        have q98 : w3.cell? ⟨w2.heap.size, 8, none⟩ = some (.slice none 0 0) := H9.c 8 (by simp)
        have q5 : w3.cell? ⟨w.heap.size + 1, 0, none⟩ = some (.int .i64 a) := H5.c 0 (by simp)
        have q6 : w3.cell? ⟨w.heap.size + 1 + 1, 0, none⟩ = some (.int .i64 0) := H6.c 0 (by simp)
        have r4 := H4.fr
        have r5 := H5.fr
        have r6 := H6.fr
        have o3 := puto24 (Only.refl (fun k => w.heap.size ≤ k ∧ k ≤ W.heap.size) w3) (R := w.heap.size) ⟨Nat.le_refl _, by omega⟩ (.int .i64 (opE x)) (.slice sp sn sc) (.string (txt (nmE x))) (.string (txt (prE x))) (.int .i64 (kE x)) (.bool (bE x)) (.int .i64 (nE x)) (.string (txt (tE x))) (.slice none 0 0)
        have o4 := (o3.set (w.heap.size + 1) 0 (.int .i64 0) ⟨by omega, by omega⟩).set (w.heap.size + 1 + 1) 0 (.int .i64 0) ⟨by omega, by omega⟩
        have G4 := ((put24 H4 (.int .i64 (opE x)) (.slice sp sn sc) (.string (txt (nmE x))) (.string (txt (prE x))) (.int .i64 (kE x)) (.bool (bE x)) (.int .i64 (nE x)) (.string (txt (tE x))) (.slice none 0 0)).other (w.heap.size + 1) 0 (.int .i64 0) (by omega)).other (w.heap.size + 1 + 1) 0 (.int .i64 0) (by omega)
        have G5 : Blk _ _ [.int .i64 0] := ((putx24 H5 (R := w.heap.size) (by omega) (.int .i64 (opE x)) (.slice sp sn sc) (.string (txt (nmE x))) (.string (txt (prE x))) (.int .i64 (kE x)) (.bool (bE x)) (.int .i64 (nE x)) (.string (txt (tE x))) (.slice none 0 0)).set 0 (.int .i64 0)).other (w.heap.size + 1 + 1) 0 (.int .i64 0) (by omega)
        have G6 : Blk _ _ [.int .i64 0] := ((putx24 H6 (R := w.heap.size) (by omega) (.int .i64 (opE x)) (.slice sp sn sc) (.string (txt (nmE x))) (.string (txt (prE x))) (.int .i64 (kE x)) (.bool (bE x)) (.int .i64 (nE x)) (.string (txt (tE x))) (.slice none 0 0)).other (w.heap.size + 1) 0 (.int .i64 0) (by omega)).set 0 (.int .i64 0)
        have l3 := H4.lt
        have hz1 : (W.alloc (.cells #[.slice p L.length cap, .int .i64 s.size, .int .i64 0] 94)).heap.size = W.heap.size + 1 := by simp
        have oT := (o2.trans ho3').trans o4
        have hB5 := Below.by_only hZ4 (by omega) o4 (fun k hk => hk.1)
        replace oT : Hid _ := oT
        replace hB5 : Hid _ := hB5
        replace G4 : Hid _ := G4
        replace G5 : Hid _ := G5
        replace G6 : Hid _ := G6
        replace hx : Hid _ := hx
        clear o3 o4 hZ4 hZ3 hZ2 hZ oW o2 ho ho' ho3 ho3' B9 E4 E5 E6 C4 C5 C6 D4 D5 D6
        go_wp2_with fail
        refine ended24 rfl rfl rfl rfl hB5.out G4.out G5.out G6.out fun w6 hb6 => ?_
        have oU := oT.out.trans (Below.only _ hb6)
        have keep : ∀ g, (W.alloc (.cells #[.slice p L.length cap, .int .i64 s.size, .int .i64 0] 94)).heap.size ≤ g → g < w2.heap.size → w6.heap[g]? = w2.heap[g]? := fun g hg hl => oU.block g hl (fun h => by omega)
        have weak : ∀ g, (W.alloc (.cells #[.slice p L.length cap, .int .i64 s.size, .int .i64 0] 94)).heap.size ≤ g → w.heap.size ≤ g := fun g hg => by omega
        exact ⟨_, _, _, rfl, ExAt.weakS weak _ _ (ExAt.same keep _ _ hx.out)⟩
      · rw [if_neg hM] at hF' hM2
        subst hF'
        replace hM2 : Hid _ := hM2
        go_wp2_with (go_at_call 31; refine Calls.mono (hM2.out ()) ?_; rintro e w3 ⟨ho3, rfl⟩)
        have ho3' := Only.imp (S' := fun k => w.heap.size ≤ k ∧ k ≤ W.heap.size) (fun k hk => ⟨by omega, by omega⟩) ho3
        exact caught24 rfl rfl rfl rfl (Below.by_only hZ3 (by simp; omega) ho3' (fun k hk => hk.1)) (E4.only (by omega) ho3) (E5.only (by omega) ho3) (E6.only (by omega) ho3)
  rw [if_neg hy] at hF
  subst hF
  replace hws2 : Hid _ := hws2
  go_wp2_with fail
  go_region
  go_wp2_with fail
  have o1 := puto24 (Only.refl (fun k => w.heap.size ≤ k ∧ k ≤ W.heap.size) W) (R := w.heap.size) ⟨Nat.le_refl _, by omega⟩ (.int .i64 0) (.slice none 0 0) (.string ⟨#[]⟩) (.string ⟨#[]⟩) (.int .i64 0) (.bool false) (.int .i64 0) (.string ⟨#[]⟩) (.slice none 0 0)
  have o2 := (o1.set (w.heap.size + 1) 0 (.int .i64 a) ⟨by omega, by omega⟩).set (w.heap.size + 1 + 1) 0 (.int .i64 y) ⟨by omega, by omega⟩
  have hB := (Below.by_only hZ (by omega) o2 (fun k hk => hk.1))
  have G4 := ((put24 D4 (.int .i64 0) (.slice none 0 0) (.string ⟨#[]⟩) (.string ⟨#[]⟩) (.int .i64 0) (.bool false) (.int .i64 0) (.string ⟨#[]⟩) (.slice none 0 0)).other (w.heap.size + 1) 0 (.int .i64 a) (by omega)).other (w.heap.size + 1 + 1) 0 (.int .i64 y) (by omega)
  have G5 : Blk _ _ [.int .i64 a] := ((putx24 D5 (R := w.heap.size) (by omega) (.int .i64 0) (.slice none 0 0) (.string ⟨#[]⟩) (.string ⟨#[]⟩) (.int .i64 0) (.bool false) (.int .i64 0) (.string ⟨#[]⟩) (.slice none 0 0)).set 0 (.int .i64 a)).other (w.heap.size + 1 + 1) 0 (.int .i64 y) (by omega)
  have G6 : Blk _ _ [.int .i64 y] := ((putx24 D6 (R := w.heap.size) (by omega) (.int .i64 0) (.slice none 0 0) (.string ⟨#[]⟩) (.string ⟨#[]⟩) (.int .i64 0) (.bool false) (.int .i64 0) (.string ⟨#[]⟩) (.slice none 0 0)).other (w.heap.size + 1) 0 (.int .i64 a) (by omega)).set 0 (.int .i64 y)
  exact refused24 rfl rfl rfl rfl hB G4 G5 G6

theorem res18 {tmps : Array Value} {w : World} {R4 R5 R6 : Nat} {v0 v1 v2 v3 v4 v5 a y : Value} (h4 : tmps.getD 4 undef = .pointer (some ⟨R4, 0, none⟩)) (h5 : tmps.getD 5 undef = .pointer (some ⟨R5, 0, none⟩)) (h6 : tmps.getD 6 undef = .pointer (some ⟨R6, 0, none⟩))
    (c0 : w.cell? ⟨R4, 0, none⟩ = some v0) (c1 : w.cell? ⟨R4, 1, none⟩ = some v1) (c2 : w.cell? ⟨R4, 2, none⟩ = some v2) (c3 : w.cell? ⟨R4, 3, none⟩ = some v3) (c4 : w.cell? ⟨R4, 4, none⟩ = some v4) (c5 : w.cell? ⟨R4, 5, none⟩ = some v5) (ca : w.cell? ⟨R5, 0, none⟩ = some a) (cy : w.cell? ⟨R6, 0, none⟩ = some y) :
    (results Tryz.f18 tmps).run Tryz.prog w = .ok (.tuple #[.agg #[v0, v1, v2, v3, v4, v5], a, y]) w := by
  have h4' : tmps[4]?.getD undef = .pointer (some ⟨R4, 0, none⟩) := by simpa using h4
  have h5' : tmps[5]?.getD undef = .pointer (some ⟨R5, 0, none⟩) := by simpa using h5
  have h6' : tmps[6]?.getD undef = .pointer (some ⟨R6, 0, none⟩) := by simpa using h6
  simp [results, Tryz.results18, h4', h5', h6', go_sem, c0, c1, c2, c3, c4, c5, ca, cy]
theorem put18 {w : World} {R : Nat} {x0 x1 x2 x3 x4 x5 : Value} (h : Blk w R [x0, x1, x2, x3, x4, x5]) (u0 u1 u2 u3 u4 u5 : Value) : Blk (((((((w.setCell ⟨R, 0, none⟩ u0).setCell ⟨R, 1, none⟩ u1).setCell ⟨R, 2, none⟩ u2).setCell ⟨R, 3, none⟩ u3).setCell ⟨R, 4, none⟩ u4).setCell ⟨R, 5, none⟩ u5)) R [u0, u1, u2, u3, u4, u5] := ((((((h.set 0 u0).set 1 u1).set 2 u2).set 3 u3).set 4 u4).set 5 u5)
theorem putx18 {w : World} {R R' : Nat} {vs : List Value} (h : Blk w R' vs) (hne : R ≠ R') (u0 u1 u2 u3 u4 u5 : Value) : Blk (((((((w.setCell ⟨R, 0, none⟩ u0).setCell ⟨R, 1, none⟩ u1).setCell ⟨R, 2, none⟩ u2).setCell ⟨R, 3, none⟩ u3).setCell ⟨R, 4, none⟩ u4).setCell ⟨R, 5, none⟩ u5)) R' vs := ((((((h.other R 0 u0 hne).other R 1 u1 hne).other R 2 u2 hne).other R 3 u3 hne).other R 4 u4 hne).other R 5 u5 hne)
theorem puto18 {S : Nat → Prop} {a w : World} (h : Only S a w) {R : Nat} (hR : S R) (u0 u1 u2 u3 u4 u5 : Value) : Only S a (((((((w.setCell ⟨R, 0, none⟩ u0).setCell ⟨R, 1, none⟩ u1).setCell ⟨R, 2, none⟩ u2).setCell ⟨R, 3, none⟩ u3).setCell ⟨R, 4, none⟩ u4).setCell ⟨R, 5, none⟩ u5)) := ((((((h.set R 0 u0 hR).set R 1 u1 hR).set R 2 u2 hR).set R 3 u3 hR).set R 4 u4 hR).set R 5 u5 hR)
theorem caught18 {w w2 : World} {act : Act} {a1 : Nat} {y1 a0 y0 : Int} {V : Qy → Value → World → Prop} (hd : act.defers = [{ target := .fn (.func 30) #[.pointer (some ⟨w.heap.size + 1, 0, none⟩), .pointer (some ⟨w.heap.size + 1 + 1, 0, none⟩)], args := #[] }])
    (h4 : act.tmps.getD 4 undef = .pointer (some ⟨w.heap.size, 0, none⟩)) (h5 : act.tmps.getD 5 undef = .pointer (some ⟨w.heap.size + 1, 0, none⟩)) (h6 : act.tmps.getD 6 undef = .pointer (some ⟨w.heap.size + 1 + 1, 0, none⟩))
    (hB : Below w.heap.size w w2) (G4 : Blk w2 w.heap.size [.slice none 0 0, .slice none 0 0, .bool false, .slice none 0 0, .slice none 0 0, .int .i64 0]) (G5 : Blk w2 (w.heap.size + 1) [.int .i64 a0]) (G6 : Blk w2 (w.heap.size + 1 + 1) [.int .i64 y0]) :
    bodyPostD Tryz.prog Tryz.f18 (Gives w (.bad a1 y1) (.agg #[.slice none 0 0, .slice none 0 0, .bool false, .slice none 0 0, .slice none 0 0, .int .i64 0]) V) (.panic [{ v := .iface 91 (refV a1 y1), recovered := false }]) act w2 := by
  show Leaves Tryz.prog Tryz.f18 act.tmps _ act.defers _ w2
  rw [hd]
  have l4 := G4.lt
  refine leaves_cons (f := 30) (args := #[.pointer (some ⟨w.heap.size + 1, 0, none⟩), .pointer (some ⟨w.heap.size + 1 + 1, 0, none⟩)]) (by simp) (by simp [go_sem]) ?_
  refine (catch30 (w.heap.size + 1) (w.heap.size + 1 + 1) a1 y1 a0 y0 [] w2 (by omega) (G5.c 0 (by simp)) (G6.c 0 (by simp)) (G5.fr 0) (G6.fr 0)).mono ?_
  rintro e u' w3 ⟨rfl, rfl, ho, ha, hy⟩
  have G := G4.only (by omega) ho
  exact ⟨.tuple #[.agg #[.slice none 0 0, .slice none 0 0, .bool false, .slice none 0 0, .slice none 0 0, .int .i64 0], .int .i64 a1, .int .i64 y1], res18 h4 h5 h6 (G.c 0 (by simp)) (G.c 1 (by simp)) (G.c 2 (by simp)) (G.c 3 (by simp)) (G.c 4 (by simp)) (G.c 5 (by simp)) ha hy, Below.by_only hB (by omega) ho (fun k hk => by omega), rfl⟩
theorem refused18 {w w5 : World} {act : Act} {a1 : Nat} {y1 : Int} {V : Qy → Value → World → Prop} (hd : act.defers = [])
    (h4 : act.tmps.getD 4 undef = .pointer (some ⟨w.heap.size, 0, none⟩)) (h5 : act.tmps.getD 5 undef = .pointer (some ⟨w.heap.size + 1, 0, none⟩)) (h6 : act.tmps.getD 6 undef = .pointer (some ⟨w.heap.size + 1 + 1, 0, none⟩))
    (hB : Below w.heap.size w w5) (G : Blk w5 w.heap.size [.slice none 0 0, .slice none 0 0, .bool false, .slice none 0 0, .slice none 0 0, .int .i64 0]) (G5 : Blk w5 (w.heap.size + 1) [.int .i64 a1]) (G6 : Blk w5 (w.heap.size + 1 + 1) [.int .i64 y1]) :
    bodyPostD Tryz.prog Tryz.f18 (Gives w (.bad a1 y1) (.agg #[.slice none 0 0, .slice none 0 0, .bool false, .slice none 0 0, .slice none 0 0, .int .i64 0]) V) .ret act w5.drew := by
  show Leaves Tryz.prog Tryz.f18 act.tmps _ act.defers _ w5.drew
  rw [hd]
  have G' := G.drew
  exact ⟨.tuple #[.agg #[.slice none 0 0, .slice none 0 0, .bool false, .slice none 0 0, .slice none 0 0, .int .i64 0], .int .i64 a1, .int .i64 y1], res18 h4 h5 h6 (G'.c 0 (by simp)) (G'.c 1 (by simp)) (G'.c 2 (by simp)) (G'.c 3 (by simp)) (G'.c 4 (by simp)) (G'.c 5 (by simp)) (G5.drew.c 0 (by simp)) (G6.drew.c 0 (by simp)), ⟨hB.os, hB.tape, hB.output, hB.size, hB.block⟩, rfl⟩
theorem ended18 {w w5 : World} {act : Act} {x : Qy} {V : Qy → Value → World → Prop} {z u0 u1 u2 u3 u4 u5 : Value} (hd : act.defers = [{ target := .fn (.func 30) #[.pointer (some ⟨w.heap.size + 1, 0, none⟩), .pointer (some ⟨w.heap.size + 1 + 1, 0, none⟩)], args := #[] }])
    (h4 : act.tmps.getD 4 undef = .pointer (some ⟨w.heap.size, 0, none⟩)) (h5 : act.tmps.getD 5 undef = .pointer (some ⟨w.heap.size + 1, 0, none⟩)) (h6 : act.tmps.getD 6 undef = .pointer (some ⟨w.heap.size + 1 + 1, 0, none⟩))
    (hB : Below w.heap.size w w5) (G4 : Blk w5 w.heap.size [u0, u1, u2, u3, u4, u5]) (G5 : Blk w5 (w.heap.size + 1) [.int .i64 0]) (G6 : Blk w5 (w.heap.size + 1 + 1) [.int .i64 0]) (hV : ∀ w6, Below w5.heap.size w5 w6 → V x (.agg #[u0, u1, u2, u3, u4, u5]) w6) :
    bodyPostD Tryz.prog Tryz.f18 (Gives w (.ok x []) z V) .ret act w5 := by
  show Leaves Tryz.prog Tryz.f18 act.tmps _ act.defers _ w5
  rw [hd]
  have l4 := G4.lt
  refine leaves_cons (f := 30) (args := #[.pointer (some ⟨w.heap.size + 1, 0, none⟩), .pointer (some ⟨w.heap.size + 1 + 1, 0, none⟩)]) (by simp) (by simp [go_sem]) ?_
  refine (idle30 (w.heap.size + 1) (w.heap.size + 1 + 1) w5).mono ?_
  rintro e u' w6 ⟨rfl, rfl, hb⟩
  have G := G4.grown hb
  exact ⟨.tuple #[.agg #[u0, u1, u2, u3, u4, u5], .int .i64 0, .int .i64 0], res18 h4 h5 h6 (G.c 0 (by simp)) (G.c 1 (by simp)) (G.c 2 (by simp)) (G.c 3 (by simp)) (G.c 4 (by simp)) (G.c 5 (by simp)) ((G5.grown hb).c 0 (by simp)) ((G6.grown hb).c 0 (by simp)), Below.by_only hB (by omega) (Below.only (fun k => w.heap.size ≤ k) hb) (fun k hk => hk), _, rfl, hV w6 hb⟩
set_option maxRecDepth 100000 in
set_option maxHeartbeats 6000000 in
theorem read18 (s : ByteArray) (hs : s.size ≤ maxLen) (w : World) (hT : Tabs w) :
    Calls Tryz.prog 18 #[.string s, .func (.func 19) #[] #[]] w (Gives w (parseL s.data.toList) (.agg #[.slice none 0 0, .slice none 0 0, .bool false, .slice none 0 0, .slice none 0 0, .int .i64 0]) (IsQ w.heap.size)) := by
  have hmf : ∀ (fn : Fn) (first cap : Array Value) (w : World), (Instr.makeFunc fn first cap).run Tryz.prog w = .ok (.func fn first cap) w := fun _ _ _ _ => rfl
  have b0 : Below w.heap.size w (((w.alloc (.cells #[.slice none 0 0, .slice none 0 0, .bool false, .slice none 0 0, .slice none 0 0, .int .i64 0] 28)).alloc (.cells #[.int .i64 0] 3)).alloc (.cells #[.int .i64 0] 29)) := by go_grown
  have hL := fun (_ : Unit) => Lex_at s hs (((w.alloc (.cells #[.slice none 0 0, .slice none 0 0, .bool false, .slice none 0 0, .slice none 0 0, .int .i64 0] 28)).alloc (.cells #[.int .i64 0] 3)).alloc (.cells #[.int .i64 0] 29)) (hT.below b0)
  have hl : s.data.toList.length = s.size := Array.length_toList
  generalize hF : parseL s.data.toList = F
  unfold parseL at hF
  rw [hl] at hF
  have hfew := lexL_few s.data.toList
  generalize lexL s.data.toList = Y at *
  obtain ⟨L, a, y⟩ := Y
  dsimp only at hL hF hfew
  replace hL : Hid _ := hL
  go_enter_defers Tryz.func18, Tryz.ntmps18
  go_upto_region 2 with ((have hh := hL.out (); go_at_call 17; (with_reducible refine Calls.mono hh ?_); clear hh hL; rintro e w1 ⟨p, cap, rfl, hcap, hws, hb1⟩; obtain ⟨B4, B5, B6, hb⟩ := start3 [.slice none 0 0, .slice none 0 0, .bool false, .slice none 0 0, .slice none 0 0, .int .i64 0] 28 hb1; have c5 : w1.cell? ⟨w.heap.size + 1, 0, none⟩ = some (.int .i64 0) := (B5.c 0 (by decide)); have c6 : w1.cell? ⟨w.heap.size + 1 + 1, 0, none⟩ = some (.int .i64 0) := (B6.c 0 (by decide)); have f5 := B5.fr 0; have f6 := B6.fr 0))
  have hfz : ∀ j, w1.frozen? ⟨w.heap.size, j, none⟩ = false := B4.fr
  have D4 := (B4.other (w.heap.size + 1) 0 (.int .i64 a) (by omega)).other (w.heap.size + 1 + 1) 0 (.int .i64 y) (by omega)
  have D5 := (B5.set 0 (.int .i64 a)).other (w.heap.size + 1 + 1) 0 (.int .i64 y) (by omega)
  have D6 := (B6.other (w.heap.size + 1) 0 (.int .i64 a) (by omega)).set 0 (.int .i64 y)
  have hZ := (hb.setCell (p := ⟨w.heap.size + 1, 0, none⟩) (Nat.le_succ _) (.int .i64 a)).setCell (p := ⟨w.heap.size + 1 + 1, 0, none⟩) (by show _ ≤ _ + 1 + 1; omega) (.int .i64 y)
  have hz2 : ((w1.setCell ⟨w.heap.size + 1, 0, none⟩ (.int .i64 a)).setCell ⟨w.heap.size + 1 + 1, 0, none⟩ (.int .i64 y)).heap.size = w1.heap.size := by simp [World.setCell]
  have hws2 : ∀ o : Obj, WsAt (((w1.setCell ⟨w.heap.size + 1, 0, none⟩ (.int .i64 a)).setCell ⟨w.heap.size + 1 + 1, 0, none⟩ (.int .i64 y)).alloc o) w1.heap.size p L := fun o => hws _ fun k h1 h2 => by
    have h1' : w.heap.size + 3 ≤ k := by simpa using h1
    rw [(below_new _ o).block k (by rw [hz2]; exact h2), Below.heap_setCell _ _ _ _ (by show k ≠ w.heap.size + 1 + 1; omega), Below.heap_setCell _ _ _ _ (by show k ≠ w.heap.size + 1; omega)]
  rw [← hz2] at hws2
  clear hb hb1 hws B4 B5 B6 c5 c6 f5 f6 hz2 hfz b0
  generalize (w1.setCell ⟨w.heap.size + 1, 0, none⟩ (.int .i64 a)).setCell ⟨w.heap.size + 1 + 1, 0, none⟩ (.int .i64 y) = W at *
  have z0 : W.cell? ⟨w.heap.size, 0, none⟩ = some (.slice none 0 0) := D4.c 0 (by decide)
  have z1 : W.cell? ⟨w.heap.size, 1, none⟩ = some (.slice none 0 0) := D4.c 1 (by decide)
  have z2 : W.cell? ⟨w.heap.size, 2, none⟩ = some (.bool false) := D4.c 2 (by decide)
  have z3 : W.cell? ⟨w.heap.size, 3, none⟩ = some (.slice none 0 0) := D4.c 3 (by decide)
  have z4 : W.cell? ⟨w.heap.size, 4, none⟩ = some (.slice none 0 0) := D4.c 4 (by decide)
  have z5 : W.cell? ⟨w.heap.size, 5, none⟩ = some (.int .i64 0) := D4.c 5 (by decide)
  have xa : W.cell? ⟨w.heap.size + 1, 0, none⟩ = some (.int .i64 a) := D5.c 0 (by simp)
  have xy : W.cell? ⟨w.heap.size + 1 + 1, 0, none⟩ = some (.int .i64 y) := D6.c 0 (by simp)
  have l4 := D4.lt
  have l6 := D6.lt
  replace D5 : Blk W (w.heap.size + 1) [.int .i64 a] := D5
  replace D6 : Blk W (w.heap.size + 1 + 1) [.int .i64 y] := D6
  have x4 := D4.fr
  have x5 := D5.fr
  have x6 := D6.fr
  by_cases hy : y = 0
  · subst hy
    rw [if_pos rfl] at hF
    have hR : Rd (W.alloc (.cells #[.slice p L.length cap, .int .i64 s.size, .int .i64 0] 94)) W.heap.size s.size 0 L := ⟨⟨p, cap, by simp [go_sem], hcap, hws2 _⟩, by simp [go_sem], by simp [go_sem], fun j => by simp [go_sem], hfew, by omega⟩
    have C4 := D4.grown (below_new W (.cells #[.slice p L.length cap, .int .i64 s.size, .int .i64 0] 94))
    have C5 := D5.grown (below_new W (.cells #[.slice p L.length cap, .int .i64 s.size, .int .i64 0] 94))
    have C6 := D6.grown (below_new W (.cells #[.slice p L.length cap, .int .i64 s.size, .int .i64 0] 94))
    have oW : Only (fun k => w.heap.size ≤ k ∧ k ≤ W.heap.size) W (W.alloc (.cells #[.slice p L.length cap, .int .i64 s.size, .int .i64 0] 94)) := Below.only _ (below_new _ _)
    have hE := fun (_ : Unit) => query_any (lay_reads W.heap.size s.size (L.length + 1)).2.2 (Nat.lt_succ_self _) hR
    clear hws2
    cases hr : queryP s.size (L.length + 1) L with
    | bad a1 y1 =>
      rw [hr] at hE
      rw [hr] at hF
      have hF' : Res.bad a1 y1 = F := hF
      subst hF'
      replace hE : Hid _ := hE
      go_wp2_with (go_at_call 19; refine Calls.mono (hE.out ()) ?_; rintro e w2 ⟨ho, rfl⟩)
      have ho' := Only.imp (S' := fun k => w.heap.size ≤ k ∧ k ≤ W.heap.size) (fun k hk => ⟨by omega, by omega⟩) ho
      exact caught18 rfl rfl rfl rfl (Below.by_only (Below.by_only hZ (by omega) oW (fun k hk => hk.1)) (by simp; omega) ho' (fun k hk => hk.1)) (C4.only (by omega) ho) (C5.only (by omega) ho) (C6.only (by omega) ho)
    | ok x M =>
      rw [hr] at hE
      rw [hr] at hF
      have hF' : (if M = [] then Res.ok x [] else .bad (placeL s.size M) 81) = F := hF
      clear hF
      replace hE : Hid _ := hE
      go_upto_region 7 with ((have hh := hE.out (); go_at_call 19; (with_reducible refine Calls.mono hh ?_); clear hh hE; rintro e w2 ⟨ho, v, rfl, ⟨v0, v1, v3, v4, rfl, hx0, hx1, hx3, hx4⟩, hr2⟩; obtain ⟨p0, c0, rfl⟩ := hx0.val; obtain ⟨p1, c1, rfl⟩ := hx1.val; obtain ⟨p3, c3, rfl⟩ := hx3.val; obtain ⟨p4, c4, rfl⟩ := hx4.val; have hx := And.intro hx0 (And.intro hx1 (And.intro hx3 hx4))))
      have ho' := Only.imp (S' := fun k => w.heap.size ≤ k ∧ k ≤ W.heap.size) (fun k hk => ⟨by omega, by omega⟩) ho
      have hZ2 := Below.by_only (Below.by_only hZ (by omega) oW (fun k hk => hk.1)) (by simp; omega) ho' (fun k hk => hk.1)
      have l2 := hr2.lt
      have hr3 := hr2.below (below_new w2 (.cells #[.slice p0 x.pats.length c0, .slice p1 x.where'.length c1, .bool x.dist, .slice p3 x.items.length c3, .slice p4 x.keys.length c4, .int .i64 x.lim] 28))
      have hM2 := fun (_ : Unit) => mustEnd_any hr3
      have B9 := Blk.new w2 [.slice p0 x.pats.length c0, .slice p1 x.where'.length c1, .bool x.dist, .slice p3 x.items.length c3, .slice p4 x.keys.length c4, .int .i64 x.lim] 28
      have E4 := (C4.only (by omega) ho).grown (below_new w2 (.cells #[.slice p0 x.pats.length c0, .slice p1 x.where'.length c1, .bool x.dist, .slice p3 x.items.length c3, .slice p4 x.keys.length c4, .int .i64 x.lim] 28))
      have E5 := (C5.only (by omega) ho).grown (below_new w2 (.cells #[.slice p0 x.pats.length c0, .slice p1 x.where'.length c1, .bool x.dist, .slice p3 x.items.length c3, .slice p4 x.keys.length c4, .int .i64 x.lim] 28))
      have E6 := (C6.only (by omega) ho).grown (below_new w2 (.cells #[.slice p0 x.pats.length c0, .slice p1 x.where'.length c1, .bool x.dist, .slice p3 x.items.length c3, .slice p4 x.keys.length c4, .int .i64 x.lim] 28))
      have o2 : Only (fun k => w.heap.size ≤ k ∧ k ≤ W.heap.size) w2 (w2.alloc (.cells #[.slice p0 x.pats.length c0, .slice p1 x.where'.length c1, .bool x.dist, .slice p3 x.items.length c3, .slice p4 x.keys.length c4, .int .i64 x.lim] 28)) := Below.only _ (below_new _ _)
      have hZ3 := Below.by_only hZ2 (by omega) o2 (fun k hk => hk.1)
      by_cases hM : M = []
      · rw [if_pos hM] at hF' hM2
        subst hF'
        replace hM2 : Hid _ := hM2
        go_upto_region 8 with ((have hh := hM2.out (); go_at_call 31; (with_reducible refine Calls.mono hh ?_); clear hh hM2; rintro e w3 ⟨ho3, v3', rfl, hv3, hr4⟩))
        have ho3' := Only.imp (S' := fun k => w.heap.size ≤ k ∧ k ≤ W.heap.size) (fun k hk => ⟨by omega, by omega⟩) ho3
        have hZ4 := Below.by_only hZ3 (by simp; omega) ho3' (fun k hk => hk.1)
        have H4 := E4.only (by omega) ho3
        have H5 := E5.only (by omega) ho3
        have H6 := E6.only (by omega) ho3
        have H9 := B9.only (by omega) ho3
        have q40 : w3.cell? ⟨w.heap.size, 0, none⟩ = some (.slice none 0 0) := H4.c 0 (by decide)
        have q90 : w3.cell? ⟨w2.heap.size, 0, none⟩ = some (.slice p0 x.pats.length c0) := H9.c 0 (by simp)
        have q41 : w3.cell? ⟨w.heap.size, 1, none⟩ = some (.slice none 0 0) := H4.c 1 (by decide)
        have q91 : w3.cell? ⟨w2.heap.size, 1, none⟩ = some (.slice p1 x.where'.length c1) := H9.c 1 (by simp)
        have q42 : w3.cell? ⟨w.heap.size, 2, none⟩ = some (.bool false) := H4.c 2 (by decide)
        have q92 : w3.cell? ⟨w2.heap.size, 2, none⟩ = some (.bool x.dist) := H9.c 2 (by simp)
        have q43 : w3.cell? ⟨w.heap.size, 3, none⟩ = some (.slice none 0 0) := H4.c 3 (by decide)
        have q93 : w3.cell? ⟨w2.heap.size, 3, none⟩ = some (.slice p3 x.items.length c3) := H9.c 3 (by simp)
        have q44 : w3.cell? ⟨w.heap.size, 4, none⟩ = some (.slice none 0 0) := H4.c 4 (by decide)
        have q94 : w3.cell? ⟨w2.heap.size, 4, none⟩ = some (.slice p4 x.keys.length c4) := H9.c 4 (by simp)
        have q45 : w3.cell? ⟨w.heap.size, 5, none⟩ = some (.int .i64 0) := H4.c 5 (by decide)
        have q95 : w3.cell? ⟨w2.heap.size, 5, none⟩ = some (.int .i64 x.lim) := H9.c 5 (by simp)
        have q5 : w3.cell? ⟨w.heap.size + 1, 0, none⟩ = some (.int .i64 a) := H5.c 0 (by simp)
        have q6 : w3.cell? ⟨w.heap.size + 1 + 1, 0, none⟩ = some (.int .i64 0) := H6.c 0 (by simp)
        have r4 := H4.fr
        have r5 := H5.fr
        have r6 := H6.fr
        have o3 := puto18 (Only.refl (fun k => w.heap.size ≤ k ∧ k ≤ W.heap.size) w3) (R := w.heap.size) ⟨Nat.le_refl _, by omega⟩ (.slice p0 x.pats.length c0) (.slice p1 x.where'.length c1) (.bool x.dist) (.slice p3 x.items.length c3) (.slice p4 x.keys.length c4) (.int .i64 x.lim)
        have o4 := (o3.set (w.heap.size + 1) 0 (.int .i64 0) ⟨by omega, by omega⟩).set (w.heap.size + 1 + 1) 0 (.int .i64 0) ⟨by omega, by omega⟩
        have G4 := ((put18 H4 (.slice p0 x.pats.length c0) (.slice p1 x.where'.length c1) (.bool x.dist) (.slice p3 x.items.length c3) (.slice p4 x.keys.length c4) (.int .i64 x.lim)).other (w.heap.size + 1) 0 (.int .i64 0) (by omega)).other (w.heap.size + 1 + 1) 0 (.int .i64 0) (by omega)
        have G5 : Blk _ _ [.int .i64 0] := ((putx18 H5 (R := w.heap.size) (by omega) (.slice p0 x.pats.length c0) (.slice p1 x.where'.length c1) (.bool x.dist) (.slice p3 x.items.length c3) (.slice p4 x.keys.length c4) (.int .i64 x.lim)).set 0 (.int .i64 0)).other (w.heap.size + 1 + 1) 0 (.int .i64 0) (by omega)
        have G6 : Blk _ _ [.int .i64 0] := ((putx18 H6 (R := w.heap.size) (by omega) (.slice p0 x.pats.length c0) (.slice p1 x.where'.length c1) (.bool x.dist) (.slice p3 x.items.length c3) (.slice p4 x.keys.length c4) (.int .i64 x.lim)).other (w.heap.size + 1) 0 (.int .i64 0) (by omega)).set 0 (.int .i64 0)
        have l3 := H4.lt
        have hz1 : (W.alloc (.cells #[.slice p L.length cap, .int .i64 s.size, .int .i64 0] 94)).heap.size = W.heap.size + 1 := by simp
        have oT := (o2.trans ho3').trans o4
        have hB5 := Below.by_only hZ4 (by omega) o4 (fun k hk => hk.1)
        replace oT : Hid _ := oT
        replace hB5 : Hid _ := hB5
        replace G4 : Hid _ := G4
        replace G5 : Hid _ := G5
        replace G6 : Hid _ := G6
        replace hx : Hid _ := hx
        clear o3 o4 hZ4 hZ3 hZ2 hZ oW o2 ho ho' ho3 ho3' B9 E4 E5 E6 C4 C5 C6 D4 D5 D6
        go_wp2_with fail
        refine ended18 rfl rfl rfl rfl hB5.out G4.out G5.out G6.out fun w6 hb6 => ?_
        have oU := oT.out.trans (Below.only _ hb6)
        have keep : ∀ g, (W.alloc (.cells #[.slice p L.length cap, .int .i64 s.size, .int .i64 0] 94)).heap.size ≤ g → g < w2.heap.size → w6.heap[g]? = w2.heap[g]? := fun g hg hl => oU.block g hl (fun h => by omega)
        have weak : ∀ g, (W.alloc (.cells #[.slice p L.length cap, .int .i64 s.size, .int .i64 0] 94)).heap.size ≤ g → w.heap.size ≤ g := fun g hg => by omega
        exact ⟨_, _, _, _, rfl, (hx.out.1.keep keep).weak weak, (hx.out.2.1.keep keep).weak weak, (hx.out.2.2.1.keep keep).weak weak, (hx.out.2.2.2.keep keep).weak weak⟩
      · rw [if_neg hM] at hF' hM2
        subst hF'
        replace hM2 : Hid _ := hM2
        go_wp2_with (go_at_call 31; refine Calls.mono (hM2.out ()) ?_; rintro e w3 ⟨ho3, rfl⟩)
        have ho3' := Only.imp (S' := fun k => w.heap.size ≤ k ∧ k ≤ W.heap.size) (fun k hk => ⟨by omega, by omega⟩) ho3
        exact caught18 rfl rfl rfl rfl (Below.by_only hZ3 (by simp; omega) ho3' (fun k hk => hk.1)) (E4.only (by omega) ho3) (E5.only (by omega) ho3) (E6.only (by omega) ho3)
  rw [if_neg hy] at hF
  subst hF
  replace hws2 : Hid _ := hws2
  go_wp2_with fail
  go_region
  go_wp2_with fail
  have o1 := puto18 (Only.refl (fun k => w.heap.size ≤ k ∧ k ≤ W.heap.size) W) (R := w.heap.size) ⟨Nat.le_refl _, by omega⟩ (.slice none 0 0) (.slice none 0 0) (.bool false) (.slice none 0 0) (.slice none 0 0) (.int .i64 0)
  have o2 := (o1.set (w.heap.size + 1) 0 (.int .i64 a) ⟨by omega, by omega⟩).set (w.heap.size + 1 + 1) 0 (.int .i64 y) ⟨by omega, by omega⟩
  have hB := (Below.by_only hZ (by omega) o2 (fun k hk => hk.1))
  have G4 := ((put18 D4 (.slice none 0 0) (.slice none 0 0) (.bool false) (.slice none 0 0) (.slice none 0 0) (.int .i64 0)).other (w.heap.size + 1) 0 (.int .i64 a) (by omega)).other (w.heap.size + 1 + 1) 0 (.int .i64 y) (by omega)
  have G5 : Blk _ _ [.int .i64 a] := ((putx18 D5 (R := w.heap.size) (by omega) (.slice none 0 0) (.slice none 0 0) (.bool false) (.slice none 0 0) (.slice none 0 0) (.int .i64 0)).set 0 (.int .i64 a)).other (w.heap.size + 1 + 1) 0 (.int .i64 y) (by omega)
  have G6 : Blk _ _ [.int .i64 y] := ((putx18 D6 (R := w.heap.size) (by omega) (.slice none 0 0) (.slice none 0 0) (.bool false) (.slice none 0 0) (.slice none 0 0) (.int .i64 0)).other (w.heap.size + 1) 0 (.int .i64 a) (by omega)).set 0 (.int .i64 y)
  exact refused18 rfl rfl rfl rfl hB G4 G5 G6
end Go.Proofs.YtefenbonjepjgaaGreatDoor
