/-
  A region that draws its order, whose last operation writes a cell that an earlier one reads: a condition on the world that holds behind each operation but that one.
-/
import Derived.WalkKit
import Derived.Deep.RegionHeld3
namespace Go.Proofs.YtomhgaihmdjdbaaDoor
open Go
section
variable {P : Program} {md : Region.Mode} {ops : Array Oper} {Q : Exit → Act → World → Prop} {S : World → Prop} {m : Nat}

/-- Whatever comes up next; S holds behind it, unless it is number 'm'. -/
def Sofar (P : Program) (md : Region.Mode) (ops : Array Oper) (Q : Exit → Act → World → Prop) (S : World → Prop) (m : Nat) : Nat → Array Bool → Act → World → Prop
  | 0, l, a, w => Region.ready md ops l = [] ∧ Q .normal a w
  | n + 1, l, a, w => (Region.ready md ops l = [] → Q .normal a w) ∧ ∀ i ∈ Region.ready md ops l, wpOp P ops Q i (fun a' w' => (i ≠ m → S w') ∧ Sofar P md ops Q S m n (l.setIfInBounds i true) a' w') a w

theorem Sofar.any : ∀ (n : Nat) (l : Array Bool) (a : Act) (w : World), Sofar P md ops Q S m n l a w → wpAny P md ops Q n l a w
  | 0, _, _, _, h => h
  | n + 1, l, _, _, h => ⟨h.1, fun i hi => wpOp_mono (fun a' w' h' => Sofar.any n (l.setIfInBounds i true) a' w' h'.2) (h.2 i hi)⟩

/-- Does number 'm' wait for number 'i'? -/
def waitsB (md : Region.Mode) (ops : Array Oper) (m i : Nat) : Bool :=
  match ops[m]? with
  | some o => o.after.any fun e => Region.binds md e && e.on == i
  | none => true

theorem not_m {i j : Nat} {oj : Oper} (hj : ops[j]? = some oj) (hw : waitsB md ops m i = true) (hno : ∀ e ∈ oj.after, Region.binds md e = true → e.on ≠ i) : j ≠ m := by
  intro e
  subst e
  unfold waitsB at hw
  rw [hj] at hw
  simp only [Array.any_eq_true] at hw
  obtain ⟨k, hk, h1⟩ := hw
  simp only [Bool.and_eq_true, beq_iff_eq] at h1
  exact hno _ (Array.getElem_mem hk) h1.1 h1.2

theorem Sofar.first {i : Nat} {oi : Oper} {v : Value} (hi : ops[i]? = some oi) (hsel : ∀ (j : Nat) (o : Oper) cs b, ops[j]? = some o → o.op ≠ .select cs b)
    (hQ : ∀ c a w, Q (.panic c) (a.put oi.dst v) w → Q (.panic c) a w) (hw : waitsB md ops m i = true) (n : Nat) :
    ∀ (l : Array Bool) (a : Act) (w : World), (∀ j oj, ops[j]? = some oj → j ≠ i → l.getD j true = false → (∀ e ∈ oj.after, Region.binds md e = true → e.on ≠ i) → oi.apart ops oj = true) →
      i ∈ Region.ready md ops l → YieldsIf P ops S oi v a → S w → Sofar P md ops Q S m n (l.setIfInBounds i true) (a.put oi.dst v) w → Sofar P md ops Q S m (n + 1) l a w := by
  induction n with
  | zero =>
    intro l a w _ hr hy hS H
    refine ⟨fun h => absurd (h ▸ hr) (by simp), fun j hj => ?_⟩
    by_cases hji : j = i
    · rw [hji]
      exact hy.wpOp hi hS ⟨fun _ => hS, H⟩
    · exact absurd (H.1 ▸ ready_mono hj hji) (by simp)
  | succ n ih =>
    intro l a w hfree hr hy hS H
    refine ⟨fun h => absurd (h ▸ hr) (by simp), fun j hj => ?_⟩
    by_cases hji : j = i
    · rw [hji]
      exact hy.wpOp hi hS ⟨fun _ => hS, H⟩
    obtain ⟨hun, oj, hoj, hall⟩ := mem_ready.1 hj
    have hno : ∀ e ∈ oj.after, Region.binds md e = true → e.on ≠ i := fun e he hb heq => by
      have hy1 := hall e he hb
      have hy0 := (mem_ready.1 hr).1
      rw [heq] at hy1
      by_cases hlt : i < l.size
      · simp [hlt] at hy0 hy1
        rw [hy0] at hy1
        cases hy1
      · rw [Array.getD_eq_getD_getElem?, Array.getElem?_eq_none (by omega)] at hy1
        cases hy1
    have hjm : j ≠ m := not_m hoj hw hno
    have step := wpOp_putIf hoj (hfree j oj hoj hji hun hno) (fun cs b => hsel i oi cs b hi) (fun cs b => hsel j oj cs b hoj) hQ hy (H.2 j (ready_mono hj hji))
    refine wpOp_mono (fun a' w' ⟨hy', hS', hrest⟩ => ⟨hS', ih (l.setIfInBounds j true) a' w' (fun k ok hk hki hku hkn => hfree k ok hk hki ?_ hkn) (ready_mono hr (Ne.symm hji)) hy' (hS' hjm) ?_⟩) step
    · by_cases hjk : j = k
      · rw [← hjk]; exact hun
      · rw [getD_set_ne true hjk] at hku; exact hku
    · rw [Array.setIfInBounds_comm _ _ hji]
      exact hrest

theorem Sofar.take {i : Nat} {oi : Oper} {v : Value} {n : Nat} {l : Array Bool} {a : Act} {w : World} (hi : ops[i]? = some oi) (hs : Region.noSelect ops = true) (hf : Region.free md ops l i = true)
    (hr : (Region.ready md ops l).contains i = true) (hw : waitsB md ops m i = true) (hQ : ∀ c a w, Q (.panic c) (a.put oi.dst v) w → Q (.panic c) a w) (hy : YieldsIf P ops S oi v a) (hS : S w)
    (h : Sofar P md ops Q S m n (l.setIfInBounds i true) (a.put oi.dst v) w) : Sofar P md ops Q S m (n + 1) l a w :=
  Sofar.first hi (Region.noSelect_spec hs) hQ hw n l a w (Region.free_spec hi hf) (by simpa using hr) hy hS h

/-- One alone may come up. -/
theorem Sofar.step {i : Nat} {o : Oper} {n : Nat} {l : Array Bool} {a : Act} {w : World} (hr : Region.ready md ops l = [i]) (ho : ops[i]? = some o)
    (h : ∀ K' : Act → World → Prop, Shut (∀ a w, (i ≠ m → S w) → Sofar P md ops Q S m n (l.setIfInBounds i true) a w → K' a w) → if Region.wanted o (yielded ops a.tmps) = true then Oper.wp P o a w K' Q else K' (a.put o.dst undef) w) :
    Sofar P md ops Q S m (n + 1) l a w := by
  refine ⟨fun h0 => absurd (hr.symm.trans h0) (by simp), fun j hj => ?_⟩
  have : j = i := by rw [hr] at hj; simpa using hj
  subst this
  exact wpOp_step ho fun K' hK => h K' fun a w hS hW => hK a w ⟨hS, hW⟩

theorem Sofar.done {l : Array Bool} {a : Act} {w : World} (hr : Region.ready md ops l = []) (h : Q .normal a w) : Sofar P md ops Q S m 0 l a w := ⟨hr, h⟩

theorem wp_sofar {id : Nat} {a : Act} {w : World} (m : Nat) (S : World → Prop) (hm : P.follows .mixedOrders = true) (h : Sofar P .any ops Q S m ops.size (Array.replicate ops.size false) a w.drew) : (Code.region id ops true).wp P Q a w :=
  wp_region_any hm (Sofar.any _ _ _ _ h)
end
end Go.Proofs.YtomhgaihmdjdbaaDoor
