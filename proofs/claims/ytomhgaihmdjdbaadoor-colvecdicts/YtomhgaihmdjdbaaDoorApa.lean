/-
  Append of anything into a column of any kind.
-/
import Derived.Test.YtomhgaihmdjdbaaDoorApk
import Derived.Test.YtomhgaihmdjdbaaDoorApn
import Derived.Test.YtomhgaihmdjdbaaDoorApz
import Derived.Test.YtomhgaihmdjdbaaDoorDc3
import Derived.Test.YtomhgaihmdjdbaaDoorRit
import Derived.Test.YtomhgaihmdjdbaaDoorTbs
namespace Go.Proofs.YtomhgaihmdjdbaaDoor
open Go.RowKit
set_option linter.unusedSimpArgs false
set_option linter.unusedVariables false

/-- Is it a value? -/
def rgtV (v : VV) : Bool := rgtB v.k v.b v.n v.s v.l v.z (Lib.validD v.s.data.toList)
/-- May a column of this kind take it in? -/
def takesV (kc : Int) (v : VV) : Bool := rgtV v && (decide (v.k = kc) || decide (v.k = 0))
/-- The number that stands for it. -/
noncomputable def numV (C : Col) (v : VV) : Int := if C.k = 6 then (C.Hp.length : Int) else if v.k = 3 then (txtNum C.X v.s : Int) else numP v.b v.n
noncomputable def textsV (C : Col) (v : VV) : List ByteArray := if C.k ≠ 6 ∧ v.k = 3 then txtOn C.X v.s else C.X
theorem numOK_any (base x : Nat) (C : Col) (v : VV) (hs : v.s.size ≤ maxLen) (hX : (C.X.length + 1) * 16 ≤ 140737488355328) : NumOK base x C v.k v.b v.n v.s v.p v.l v.c (numV C v) (textsV C v) := by
  unfold numV textsV
  by_cases h6 : C.k = 6
  · rw [if_pos h6, if_neg (by simp [h6])]
    exact numOK_path base x C v.k v.b v.n v.s v.p v.l v.c h6
  · rw [if_neg h6]
    by_cases h3 : v.k = 3
    · rw [if_pos h3, if_pos ⟨h6, h3⟩, h3]
      exact numOK_text base x C v.b v.n v.s v.p v.l v.c h6 hs hX
    · rw [if_neg h3, if_neg (fun h => h3 h.2)]
      exact numOK_plain base x C v.k v.b v.n v.s v.p v.l v.c h6 h3
/-- Append of anything: it is taken in, or refused. -/
theorem Append_any (base x : Nat) (C : Col) (v : VV) (w : World) (hC : ColAt w base x C) (hb : base ≤ w.heap.size) (hz : v.z.length = v.l) (hp : PathAt w v.p v.z) (hs : v.s.size ≤ maxLen) (hT : Tabs w) (hpf : ∀ g off, v.p = some ⟨g, off, none⟩ → v.z ≠ [] → ¬ Foot x C g) (hM : C.M.length < 10000000000000) (hL : C.L.length < 10000000000000) (hH : rgtV v = true → C.Hp.length + v.l < 10000000000000) (hX : (C.X.length + 1) * 16 ≤ 140737488355328) :
    Calls Tryd.prog 16 #[.pointer (some ⟨x, 0, none⟩), .agg #[.int .i64 v.k, .bool v.b, .int .i64 v.n, .string v.s, .slice v.p v.l v.c]] w fun e w' =>
      (takesV C.k v = true → e = .returned (.int .i64 0) ∧ ∃ C', ColAt w' base x C' ∧ Behind C C' v.k v.z (numV C v) (textsV C v) ∧ Only (Foot x C) w w' ∧ Kin w x C C') ∧ (takesV C.k v = false → e = .returned (.int .i64 31) ∧ Below w.heap.size w w') := by
  have hR : ∀ w', Below w.heap.size w w' → Calls Tryd.prog 37 #[.agg #[.int .i64 v.k, .bool v.b, .int .i64 v.n, .string v.s, .slice v.p v.l v.c]] w' fun e w'' => e = .returned (.bool (rgtV v)) ∧ Below w'.heap.size w' w'' := fun w' g => Right_any v.k v.b v.n v.s v.p v.l v.c v.z (Lib.validD v.s.data.toList) w' hz (hp.below g) (valid_any v.s hs w' (Tabs.below hT g))
  have hN := numOK_any base x C v hs hX
  unfold takesV
  cases hr : rgtV v with
  | false =>
    rw [hr] at hR
    exact (Append_bad base x C v.k v.b v.n v.s v.p v.l v.c w hC hR).mono fun e w' h => ⟨fun q => by simp at q, fun _ => h⟩
  | true =>
    rw [hr] at hR
    by_cases h1 : v.k = C.k
    · exact (Append_sameQ base x C v.k v.b v.n v.s v.p v.l v.c v.z _ _ w hC hN hb hz hp hpf hM hL (hH hr) h1 hR).mono fun e w' h => ⟨fun _ => h, fun q => by simp [h1] at q⟩
    · by_cases h0 : v.k = 0
      · exact (Append_zero base x C v.k v.b v.n v.s v.p v.l v.c v.z _ _ w hC hN hb hz hp hpf hM hL (hH hr) ⟨h1, h0⟩ hR).mono fun e w' h => ⟨fun _ => h, fun q => by simp [h0] at q⟩
      · exact (Append_other base x C v.k v.b v.n v.s v.p v.l v.c w hC ⟨h1, h0⟩ hR).mono fun e w' h => ⟨fun q => by simp [h1, h0] at q, fun _ => h⟩
end Go.Proofs.YtomhgaihmdjdbaaDoor
