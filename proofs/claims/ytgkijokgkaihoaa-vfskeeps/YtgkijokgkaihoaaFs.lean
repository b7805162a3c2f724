/-
  What a file system of package vfs is in memory: its six fields, its map, its rows of pages, its pages.
-/
import Derived.Test.YtgkijokgkaihoaaProg
import Derived.WalkKit
import Derived.Maps.OwnSet
namespace Go.Proofs.Ytgkijokgkaihoaa
open Go.RowKit Go.Maps

/-- An element of the map is read as itself. -/
def heldR (v : Value) : Option (DataW Value × List MemPlace) := some (.held v, [])
/-- The pages' slice that stands at a name; nil, if there is none. -/
def look (D : DataW Value) (s : List UInt8) : Value :=
  match D.atKey (.string s) (.held (.slice none 0 0)) with
  | .held v => v
  | _ => .slice none 0 0
def byV (b : UInt8) : Value := .int .u8 (b.toNat : Int)
/-- A slice of pages: each page's slice beside its bytes. -/
def PgAt (w : World) (base : Nat) (v : Value) (ps : List (Value × List UInt8)) : Prop :=
  w.ownsRow base 29 1 v ps.length (ps.map Prod.fst) ∧ ∀ q ∈ ps, w.ownsRow base 5 1 q.1 q.2.length (q.2.map byV)
def bys : List (Value × List UInt8) → Int
  | [] => 0
  | q :: r => (q.2.length : Int) + bys r
def atE (C : List UInt8 → List (Value × List UInt8)) : Lit → Int
  | .string b => bys (C b)
  | _ => 0
def totE (C : List UInt8 → List (Value × List UInt8)) : List (Lit × DataW Value) → Int
  | [] => 0
  | e :: r => atE C e.1 + totE C r
def totl (D : DataW Value) (C : List UInt8 → List (Value × List UInt8)) : Int :=
  match D with
  | .map es => totE C es
  | _ => 0

structure St where
  D : DataW Value
  C : List UInt8 → List (Value × List UInt8)
  quota : Int
  size : Int
  calls : Int
  fs : List Int
  failed : Bool

/-- The struct's six cells. -/
def cellsOf (mb : Nat) (fv : Value) (S : St) : Array Value :=
  #[.map (some mb), .int .i64 S.quota, .int .i64 S.size, .int .i64 S.calls, fv, .bool S.failed]

structure FsAt (w : World) (base p mb : Nat) (fv : Value) (S : St) : Prop where
  blk : w.heap[p]? = some (.cells (cellsOf mb fv S) 54 (0, 0))
  bp : base ≤ p
  bm : base ≤ mb
  map : w.ownsMap Try.prog 9 heldR mb (Maps.size S.D) S.D
  few : Maps.size S.D ≤ 256
  fal : w.ownsRow base 3 1 fv S.fs.length (S.fs.map (Value.int .i64))
  srt : S.fs.Pairwise (· ≤ ·)
  fbig : S.fs.length < 4611686018427387904
  pgs : ∀ s, PgAt w base (look S.D s) (S.C s)
  has : ∀ s, Maps.has S.D (.string s) = !(S.C s).isEmpty
  pok : ∀ s, (S.C s).length ≤ 4096 ∧ ∀ q ∈ S.C s, 1 ≤ q.2.length ∧ q.2.length ≤ 1024
  dis : ∀ s s', s ≠ s' → (look S.D s).ownBlock = none ∨ (look S.D s).ownBlock ≠ (look S.D s').ownBlock
  tot : S.size = totl S.D S.C
  s1 : S.size ≤ 1024 * S.calls
  c0 : 0 ≤ S.calls
  ql : -9223372036854775808 ≤ S.quota
  qh : S.quota ≤ 9223372036854775807

theorem bys_nonneg : ∀ ps, 0 ≤ bys ps
  | [] => Int.le_refl _
  | q :: r => by have := bys_nonneg r; simp only [bys]; omega
theorem bys_append (a b : List (Value × List UInt8)) : bys (a ++ b) = bys a + bys b := by
  induction a with
  | nil => simp [bys]
  | cons q r ih => simp only [List.cons_append, bys, ih]; omega
theorem atE_nonneg (C) (l : Lit) : 0 ≤ atE C l := by
  unfold atE; split
  · exact bys_nonneg _
  · exact Int.le_refl _
theorem totE_nonneg (C) : ∀ es, 0 ≤ totE C es
  | [] => Int.le_refl _
  | e :: r => by have := totE_nonneg C r; have := atE_nonneg C e.1; simp only [totE]; omega
theorem totl_nonneg (D C) : 0 ≤ totl D C := by
  unfold totl; split
  · exact totE_nonneg _ _
  · exact Int.le_refl _
theorem totE_insert (C) (x : Lit × DataW Value) : ∀ es, totE C (DataW.insert x es) = atE C x.1 + totE C es
  | [] => by simp [DataW.insert, totE]
  | y :: r => by
    unfold DataW.insert
    split
    · simp [totE]
    · simp only [totE, totE_insert C x r]; omega
theorem totE_congr {C C' : List UInt8 → List (Value × List UInt8)} : ∀ es : List (Lit × DataW Value), (∀ e ∈ es, atE C e.1 = atE C' e.1) → totE C es = totE C' es
  | [], _ => rfl
  | e :: r, h => by simp only [totE, h e (by simp), totE_congr r (fun x hx => h x (by simp [hx]))]

theorem sameKey_string (s s' : List UInt8) : (Lit.string s).sameKey (.string s') = decide (s = s') := by
  cases h : (Lit.string s).sameKey (.string s')
  · have : s ≠ s' := fun e => by
      subst e
      rw [WideAt.sameKey_self (by simp [WideAt.IsKeyLit])] at h
      exact absurd h (by decide)
    simp [this]
  · have := WideAt.sameKey_eq h
    simp at this
    simp [this]

/-- What stands at other keys, and what stands at this one. -/
theorem totE_filter (C) (s : List UInt8) : ∀ es : List (Lit × DataW Value), es.Pairwise (fun p q => p.1 ≠ q.1) →
    totE C es = totE C (es.filter fun p => !p.1.sameKey (.string s)) + (if es.any (fun p => p.1.sameKey (.string s)) then bys (C s) else 0)
  | [], _ => by simp [totE]
  | e :: r, h => by
    obtain ⟨h1, h2⟩ := List.pairwise_cons.1 h
    have ih := totE_filter C s r h2
    cases hk : e.1.sameKey (.string s)
    · simp only [List.filter_cons, hk, List.any_cons, totE, Bool.not_false, Bool.false_or, if_true]
      omega
    · have he : e.1 = .string s := WideAt.sameKey_eq hk
      have hno : r.any (fun p => p.1.sameKey (.string s)) = false := by
        rw [List.any_eq_false]
        intro q hq hq'
        exact h1 q hq (he.trans (WideAt.sameKey_eq hq').symm)
      simp only [List.filter_cons, hk, List.any_cons, totE, Bool.not_true, Bool.true_or, if_true, hno] at ih ⊢
      simp [he, atE] at ih ⊢
      omega

theorem totl_del {D : DataW Value} (hT : Tidy D) (C) (s : List UInt8) (hC : Maps.has D (.string s) = !(C s).isEmpty) : totl (D.del (.string s)) C = totl D C - bys (C s) := by
  obtain ⟨es, rfl, hp⟩ := hT
  show totE C (es.filter fun p => !p.1.sameKey (.string s)) = totE C es - _
  rw [totE_filter C s es hp]
  rw [Maps.has_eq] at hC
  rw [hC]
  cases hc : C s <;> simp [bys] <;> omega

theorem totl_put {D : DataW Value} (hT : Tidy D) (C C' : List UInt8 → List (Value × List UInt8)) (s : List UInt8) (d : DataW Value) (hC : Maps.has D (.string s) = !(C s).isEmpty) (hne : ∀ t, t ≠ s → C' t = C t) :
    totl (D.put (.string s) d) C' = totl D C - bys (C s) + bys (C' s) := by
  rw [← totl_del hT C s hC]
  obtain ⟨es, rfl, hp⟩ := hT
  show totE C' (DataW.insert (.string s, d) (es.filter fun p => !p.1.sameKey (.string s))) = totE C (es.filter fun p => !p.1.sameKey (.string s)) + _
  rw [totE_insert]
  have : totE C' (es.filter fun p => !p.1.sameKey (.string s)) = totE C (es.filter fun p => !p.1.sameKey (.string s)) := by
    refine totE_congr _ (fun e he => ?_)
    have hk := (List.mem_filter.1 he).2
    unfold atE
    split
    · rename_i b hb
      rw [hb, sameKey_string] at hk
      rw [hne b (by simpa using hk)]
    · rfl
  simp only [atE]
  omega
end Go.Proofs.Ytgkijokgkaihoaa
