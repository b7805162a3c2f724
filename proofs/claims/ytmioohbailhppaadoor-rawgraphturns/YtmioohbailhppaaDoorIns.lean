/-
  A record put into a row of records: append onto a row of the call's own, in a region in the text's order; the parts of a row.
-/
import Derived.Test.YtmioohbailhppaaDoorCpt
namespace Go.Proofs.YtmioohbailhppaaDoor
open Go.RowKit
set_option linter.unusedSimpArgs false
set_option linter.unusedVariables false

theorem wpList_append_any {P : Program} {w : World} {ops : Array Oper} {rest : List Oper} {o : Oper} {a : Act} {Q : Exit → Act → World → Prop} (hgd : o.guard = none) (s x : Operand) (t : TypeId)
    (ho : o.op = .call { callee := .builtin .append, args := #[s, x], argTypes := #[t, t] })
    (base : Nat) (e : TypeId) (i : TypeInfo) (z : Value) (size bytes : Nat) (ht : P.underlying t = some (.slice e)) (hi : P.info? e = some i) (hz : i.zero = some z)
    (hsize : i.size = size) (hby : i.bytes = bytes) (hzs : z.cells.size = size) (hsz : 0 < size)
    (k c0 n : Nat) (xs : List Value) (hs : a.eval s = .slice (some ⟨k, 0, none⟩) n c0) (hown : w.ownsRow base e size (.slice (some ⟨k, 0, none⟩) n c0) n xs)
    (xv : Value) (m : Nat) (news : List Value) (hx : a.eval x = xv) (hnews : NewsAt w size xv m news) (h1 : ∀ u ∈ news, u.oneCell' = true)
    (h63 : n + m ≤ maxLen) (hbytes : (n + m) * bytes ≤ 140737488355328) (hbase : base ≤ w.heap.size)
    (h : ∀ g cap w', w'.ownsRow base e size (.slice (some ⟨g, 0, none⟩) (n + m) cap) (n + m) (xs ++ news) → w.grownBy w' (some k) → wpList P ops Q rest (a.put o.dst (.slice (some ⟨g, 0, none⟩) (n + m) cap)) w') :
    wpList P ops Q (o :: rest) a w := by
  have key : ∃ g cap w', (Builtin.append_ #[t, t] o.type #[.slice (some ⟨k, 0, none⟩) n c0, xv]).run P w = .ok (.slice (some ⟨g, 0, none⟩) (n + m) cap) w' ∧ w'.ownsRow base e size (.slice (some ⟨g, 0, none⟩) (n + m) cap) (n + m) (xs ++ news) ∧ w.grownBy w' (some k) := by
    rcases hnews with ⟨rfl, rfl, rfl⟩ | ⟨ad, c, rfl, hl, hn⟩
    · refine ⟨k, c0, w, run_append_owned_none w base t o.type e i size ht hi _ n xs hown, by simpa using hown, ⟨rfl, rfl, rfl, Nat.le_refl _, fun _ _ _ => rfl⟩⟩
    · obtain ⟨v', w', hr, h2, h3, h4, h5⟩ := run_append_own_at (P := P) w base t o.type e i z size bytes ht hi hz hsize hby hzs hsz _ n xs hown ad m c news hl hn h1 h63 hbytes hbase
      rcases h2.2 with ⟨rfl, _⟩ | ⟨g, cap, cur, rfl, _⟩
      · exact absurd (h4.1 rfl).1 (by simp)
      · exact ⟨g, cap, w', hr, h2, h3⟩
  obtain ⟨g, cap, w', hr, h2, h3⟩ := key
  refine wpList_plain hgd fun K hK => ?_
  unfold Oper.wp execOp
  simp only [ho, resolve, invoke, builtin, Sem.run_bind, Sem.run_pure, Result.andThen_ok, List.map_toArray, List.map_cons, List.map_nil, hs, hx, hr]
  exact hK _ _ (h g cap w' h2 h3)
/-- The beginning of a row, and its rest. -/
theorem part_lo {α : Type} [Inhabited α] {w : World} {g k : Nat} {cs : α → List Value} {M : List α} (h : OR w g k cs M) (hk : ∀ x, (cs x).length = k) (k0 : 0 < k) (at_ cap : Nat) (ha : at_ ≤ M.length) : NewsAt w k (.slice (some ⟨g, 0, none⟩) at_ cap) at_ ((M.take at_).flatMap cs) := by
  refine .inr ⟨⟨g, 0, none⟩, cap, rfl, by rw [flat_len cs k hk, List.length_take, Nat.min_eq_left ha], fun j u hu => ?_⟩
  have hjl : j < at_ * k := by
    have := (List.getElem?_eq_some_iff.1 hu).1
    rwa [flat_len cs k hk, List.length_take, Nat.min_eq_left ha] at this
  have hd : j / k < at_ := Nat.div_lt_of_lt_mul (by rwa [Nat.mul_comm])
  have hm : j % k < k := Nat.mod_lt _ k0
  have e := flat_at cs k hk (M.take at_) (j / k) (j % k) (by simp; omega) hm
  rw [Nat.div_add_mod', hu] at e
  have hg : (M.take at_).getD (j / k) default = M.getD (j / k) default := by simp [List.getD, List.getElem?_take_of_lt hd]
  rw [hg] at e
  rw [add_plain, Nat.zero_add, ← Nat.div_add_mod' j k, h.cell (j / k) (by omega) (j % k) hm, e]
theorem part_hi {α : Type} [Inhabited α] {w : World} {g k : Nat} {cs : α → List Value} {M : List α} (h : OR w g k cs M) (hk : ∀ x, (cs x).length = k) (k0 : 0 < k) (at_ cap : Nat) (ha : at_ ≤ M.length) : NewsAt w k (.slice (some ⟨g, at_ * k, none⟩) (M.length - at_) cap) (M.length - at_) ((M.drop at_).flatMap cs) := by
  refine .inr ⟨⟨g, at_ * k, none⟩, cap, rfl, by rw [flat_len cs k hk, List.length_drop], fun j u hu => ?_⟩
  have hjl : j < (M.length - at_) * k := by
    have := (List.getElem?_eq_some_iff.1 hu).1
    rwa [flat_len cs k hk, List.length_drop] at this
  have hd : j / k < M.length - at_ := Nat.div_lt_of_lt_mul (by rwa [Nat.mul_comm])
  have hm : j % k < k := Nat.mod_lt _ k0
  have e := flat_at cs k hk (M.drop at_) (j / k) (j % k) (by simp; omega) hm
  rw [Nat.div_add_mod', hu] at e
  have hg : (M.drop at_).getD (j / k) default = M.getD (at_ + j / k) default := by simp [List.getD]
  rw [hg] at e
  rw [add_plain, show at_ * k + j = (at_ + j / k) * k + j % k by rw [Nat.add_mul, Nat.add_assoc, Nat.div_add_mod'], h.cell (at_ + j / k) (by omega) (j % k) hm, e]
/-- A record among others. -/
def putIn {α : Type} (M : List α) (at_ : Nat) (x : α) : List α := M.take at_ ++ [x] ++ M.drop at_
theorem putIn_perm {α : Type} (M : List α) (at_ : Nat) (x : α) : (putIn M at_ x).Perm (M ++ [x]) := by
  unfold putIn
  rw [List.append_assoc]
  refine (List.Perm.append_left _ List.perm_append_comm).trans ?_
  rw [← List.append_assoc, List.take_append_drop]
theorem putIn_len {α : Type} (M : List α) (at_ : Nat) (x : α) (h : at_ ≤ M.length) : (putIn M at_ x).length = M.length + 1 := by
  have := (putIn_perm M at_ x).length_eq
  simpa using this
/-- Put in where it belongs, all stay in order. -/
theorem putIn_sorted {α : Type} [Inhabited α] (f : α → Int) (M : List α) (at_ : Nat) (x : α) (hM : M.Pairwise (fun a b => f a ≤ f b)) (hlo : ∀ i, i < at_ → i < M.length → f (M.getD i default) ≤ f x) (hhi : ∀ i, at_ ≤ i → i < M.length → f x ≤ f (M.getD i default)) : (putIn M at_ x).Pairwise (fun a b => f a ≤ f b) := by
  unfold putIn
  rw [List.append_assoc, List.pairwise_append]
  refine ⟨hM.sublist (List.take_sublist _ _), ?_, fun a ha b hb => ?_⟩
  · rw [List.singleton_append, List.pairwise_cons]
    refine ⟨fun b hb => ?_, hM.sublist (List.drop_sublist _ _)⟩
    obtain ⟨i, hi, e⟩ := List.mem_iff_getElem.1 hb
    rw [List.length_drop] at hi
    have := hhi (at_ + i) (by omega) (by omega)
    rw [show M.getD (at_ + i) default = b by rw [← e]; simp [List.getD, List.getElem?_eq_getElem (show at_ + i < M.length by omega)]] at this
    exact this
  · obtain ⟨i, hi, e⟩ := List.mem_iff_getElem.1 ha
    rw [List.length_take] at hi
    have hax := hlo i (by omega) (by omega)
    rw [show M.getD i default = a by rw [← e]; simp [List.getD, List.getElem?_eq_getElem (show i < M.length by omega)]] at hax
    rcases List.mem_append.1 hb with hb | hb
    · rw [List.mem_singleton] at hb
      subst hb
      exact hax
    · obtain ⟨j, hj, e'⟩ := List.mem_iff_getElem.1 hb
      rw [List.length_drop] at hj
      have := hhi (at_ + j) (by omega) (by omega)
      rw [show M.getD (at_ + j) default = b by rw [← e']; simp [List.getD, List.getElem?_eq_getElem (show at_ + j < M.length by omega)]] at this
      omega
end Go.Proofs.YtmioohbailhppaaDoor
