/-
  The names of all files: the contract of Names, and what the list is.
-/
import Derived.Test.YtgkijokgkaihoaaShelf2
import Derived.Test.YtgkijokgkaihoaaPut
import Derived.Sort.KeysCollected
import Derived.Sort.OwnSorted
import Derived.Sort.Walk0
namespace Go.Proofs.Ytgkijokgkaihoaa
open Go.RowKit Go.WideMaps Go.Maps Go.Sort Go.Shelf

theorem sorts35 (m : Nat) : AnyZ.SortsIn Try.prog Try.sorted35_ren Fence.wide m :=
  ⟨fun blk off cap ss W hH hblk hsz => callsIn_wide.2 (AnyM.slices_Sort_string Try.sort42 blk off cap ss W hH hblk hsz),
   fun p cap W => callsIn_wide.2 (AnyM.slices_Sort_string_none Try.sort42 p cap W)⟩

theorem keys36_any (mb : Option Nat) (W : World) : CallsIn Fence.wide 5 Try.prog 36 #[.map mb] W fun e w' => e = .returned (.func (.func 43) #[] #[.pointer (some ⟨W.heap.size, 0, none⟩)]) ∧ w' = W.alloc (.cells #[.map mb] 52) :=
  AnyZ.keys_in Try.keys36 Fence.wide 5 trivial rfl mb W

set_option maxHeartbeats 1000000 in
theorem sorted35_any {H : Type} (b nn : Nat) (D0 : DataW H) (R : Value → Option (DataW H × List MemPlace)) (w : World) (hown : w.ownsMap Try.prog 9 R b nn D0) (hmax : Maps.size D0 ≤ maxLen) (hbytes : Maps.size D0 * 16 ≤ 140737488355328) :
    CallsIn Fence.wide 5 Try.prog 35 #[.func (.func 43) #[] #[.pointer (some ⟨w.heap.size, 0, none⟩)]] (w.alloc (.cells #[.map (some b)] 52)) fun e w' => ∃ (v : Value) (ss : List (List UInt8)), e = .returned v ∧ ss.Perm (strKeys D0) ∧
      w'.ownsRow (w.alloc (.cells #[.map (some b)] 52)).heap.size 9 1 v ss.length ((ss.mergeSort (fun x y => decide (x ≤ y))).map encStr) ∧ (v = .slice none 0 0 ↔ ss = []) ∧ Below (w.alloc (.cells #[.map (some b)] 52)).heap.size (w.alloc (.cells #[.map (some b)] 52)) w' := by
  have hbl := hown.lt
  have hseq : SeqGives Fence.wide 2 Try.prog 43 #[.pointer (some ⟨w.heap.size, 0, none⟩)] encStr (fun ss => ss.Perm (strKeys D0)) (Maps.size D0) (w.alloc (.cells #[.map (some b)] 52)) :=
    AnyZ.keys_gives (ρ := Try.keys36_ren) { Try.keys36 with } Fence.wide _ trivial rfl (by omega) w.heap.size b nn D0 _ (by simp) (by simp) (by
      obtain ⟨es, clock, hb, Ft, hs, hD⟩ := hown
      exact ⟨es, clock, (Below.heap_alloc _ _ b hbl).trans hb, Ft, hs, hD⟩)
  exact AnyZ.sorted_in Try.sorted35 Fence.wide 5 trivial trivial trivial trivial rfl (by omega) (sorts35 _) (enters_of Try.func42 (by kernel_rfl) rfl) 43 #[.pointer (some ⟨w.heap.size, 0, none⟩)] trivial (enters_of Try.func43 (by kernel_rfl) rfl) _ _ hmax hbytes _ hseq

/-- All files' names, rising. -/
def nms (S : St) : List (List UInt8) := (strKeys S.D).mergeSort leB

section
variable {w : World} {base p mb : Nat} {fv : Value} {S : St}

set_option maxHeartbeats 1000000 in
theorem Names_any (h : FsAt w base p mb fv S) :
    Calls Try.prog 22 #[.pointer (some ⟨p, 0, none⟩)] w fun e w' => ∃ v, e = .returned v ∧ w'.ownsRow w.heap.size 9 1 v (nms S).length ((nms S).map encStr) ∧ Below w.heap.size w w' := by
  have c0 : w.cell? ⟨p, 0, none⟩ = some (.map (some mb)) := h.cell 0
  have hf := h.few
  refine (callsIn_wide (n := 6)).1 ?_
  have hfK : Fence.wide.fn 36 := trivial
  have hfS : Fence.wide.fn 35 := trivial
  refine callsIn_of_wp Try.func22 rfl trivial ?_ rfl
  simp only [Try.ntmps22, List.size_toArray, List.length_cons, List.length_nil, Nat.reduceAdd, Nat.reduceSub, Array.replicate_succ, Array.replicate_zero, List.push_toArray, List.append_toArray, List.nil_append, List.cons_append]
  gi_wp2_with (first
    | (gi_at_call 36; refine (keys36_any _ _).mono ?_; rintro e w' ⟨rfl, rfl⟩)
    | (gi_at_call 35; refine (sorted35_any mb _ S.D heldR w h.map (by unfold maxLen; omega) (by omega)).mono ?_; rintro e w' ⟨v, ss, rfl, hS, hrow, hnil, hb⟩))
  go_ret
  have he : ss.mergeSort (fun x y => decide (x ≤ y)) = nms S := mergeSort_of_perm hS
  have hl : ss.length = (nms S).length := by rw [← he]; simp
  rw [he, hl] at hrow
  exact ⟨v, rfl, row_mono hrow (by simp), ((Below.refl _ w).alloc (Nat.le_refl _) _).trans (hb.mono (by simp))⟩

theorem keys_of (h : FsAt w base p mb fv S) : ∃ es, S.D = .map es ∧ es.Pairwise (fun p q => p.1 ≠ q.1) ∧ ∀ p ∈ es, ∃ x, p.1 = .string x := by
  obtain ⟨es, hD, hpw⟩ := h.map.tidy law9
  obtain ⟨es', hD', hko⟩ := h.map.keysOf
  obtain rfl : es = es' := by rw [hD] at hD'; simpa using hD'
  exact ⟨es, hD, hpw, fun p hp => by obtain ⟨v, hv⟩ := hko p hp; obtain ⟨x, _, hx, _⟩ := Maps.keyOf_str Try.underlying9 hv; exact ⟨x, hx⟩⟩

theorem nms_len (S : St) (h : FsAt w base p mb fv S) : (nms S).length = Maps.size S.D := by
  obtain ⟨es, hD, _⟩ := keys_of h
  unfold nms
  rw [hD]
  simp [strKeys, Maps.size]

theorem nms_mem (h : FsAt w base p mb fv S) (t : List UInt8) : t ∈ nms S ↔ thr S t = true := by
  have hh := h.has t
  obtain ⟨es, hD, hpw, hk⟩ := keys_of h
  have : t ∈ nms S ↔ t ∈ strKeys S.D := by unfold nms; exact List.mem_mergeSort
  rw [this]
  show _ ↔ (!(S.C t).isEmpty) = true
  rw [← hh, hD, Maps.has_eq, List.any_eq_true]
  show t ∈ es.map (fun p => Go.strOf p.1) ↔ _
  rw [List.mem_map]
  constructor
  · rintro ⟨q, hq, e⟩
    obtain ⟨x, hx⟩ := hk q hq
    refine ⟨q, hq, ?_⟩
    rw [hx] at e ⊢
    simp [Go.strOf] at e
    rw [sameKey_string]
    simp [e]
  · rintro ⟨q, hq, e⟩
    refine ⟨q, hq, ?_⟩
    rw [WideAt.sameKey_eq e]
    rfl

theorem nms_lt (h : FsAt w base p mb fv S) : (nms S).Pairwise (fun a b => Op.bytesLess a b = true) := by
  obtain ⟨es, hD, hpw, hk⟩ := keys_of h
  have hnd : (strKeys S.D).Nodup := by
    rw [hD]
    show (es.map fun p => Go.strOf p.1).Nodup
    refine List.pairwise_map.2 (hpw.imp_of_mem fun {p q} hp' hq' hne e => hne ?_)
    obtain ⟨a, ha⟩ := hk p hp'
    obtain ⟨b, hb⟩ := hk q hq'
    rw [ha, hb] at e ⊢
    exact congrArg _ e
  have hnd2 : (nms S).Nodup := (List.mergeSort_perm _ _).nodup_iff.2 hnd
  have tr : ∀ a b c : List UInt8, leB a b = true → leB b c = true → leB a c = true := fun a b c h1 h2 => by simp only [leB, decide_eq_true_eq] at *; exact List.le_trans h1 h2
  have to : ∀ a b : List UInt8, (leB a b || leB b a) = true := fun a b => by simp only [leB, Bool.or_eq_true, decide_eq_true_eq]; exact List.le_total a b
  have hs : (nms S).Pairwise (fun a b => leB a b = true) := List.pairwise_mergeSort tr to _
  refine (hs.and hnd2).imp ?_
  rintro a b ⟨h1, h2⟩
  rw [bytesLess_eq]
  simp only [leB, decide_eq_true_eq] at h1 ⊢
  rcases List.le_iff_lt_or_eq.1 h1 with h | h
  · exact h
  · exact absurd h h2
end
end Go.Proofs.Ytgkijokgkaihoaa
