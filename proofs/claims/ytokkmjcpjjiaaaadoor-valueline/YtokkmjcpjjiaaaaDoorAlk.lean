/-
  Two values are alike just where their bytes are, as texts.
-/
import Derived.Test.YtokkmjcpjjiaaaaDoorLin
namespace Go.Proofs.YtokkmjcpjjiaaaaDoor
open Go.RowKit
set_option linter.unusedSimpArgs false
set_option linter.unusedVariables false

theorem nb8_inj {u v : Int} (hu : 0 ≤ u ∧ u < 18446744073709551616) (hv : 0 ≤ v ∧ v < 18446744073709551616) (h : nb u 8 = nb v 8) : u = v := by
  simp [nb, nbv, List.range, List.range.loop] at h
  omega
theorem wrap_rng (n : Int) : 0 ≤ IntKind.u64.wrap n ∧ IntKind.u64.wrap n < 18446744073709551616 := by
  simp only [IntKind.wrap_u64]
  omega
theorem wrap_inj {n m : Int} (hn : -9223372036854775808 ≤ n ∧ n ≤ 9223372036854775807) (hm : -9223372036854775808 ≤ m ∧ m ≤ 9223372036854775807) (h : IntKind.u64.wrap n = IntKind.u64.wrap m) : n = m := by
  simp only [IntKind.wrap_u64] at h
  omega
theorem num_inj {n m : Int} (hn : -9223372036854775808 ≤ n ∧ n ≤ 9223372036854775807) (hm : -9223372036854775808 ≤ m ∧ m ≤ 9223372036854775807) (h : nb (IntKind.u64.wrap n) 8 = nb (IntKind.u64.wrap m) 8) : n = m :=
  wrap_inj hn hm (nb8_inj (wrap_rng n) (wrap_rng m) h)
theorem nb_length (u : Int) (wide : Nat) : (nb u wide).length = wide := by simp [nb]
theorem pb_inj : ∀ {x y : List Int}, (∀ z ∈ x, -9223372036854775808 ≤ z ∧ z ≤ 9223372036854775807) → (∀ z ∈ y, -9223372036854775808 ≤ z ∧ z ≤ 9223372036854775807) → x.length = y.length → pb x = pb y → x = y
  | [], [], _, _, _, _ => rfl
  | [], _ :: _, _, _, h, _ => by simp at h
  | _ :: _, [], _, _, h, _ => by simp at h
  | a :: x, b :: y, hx, hy, hl, h => by
    have e1 : pb (a :: x) = nb (IntKind.u64.wrap a) 8 ++ pb x := by simp [pb]
    have e2 : pb (b :: y) = nb (IntKind.u64.wrap b) 8 ++ pb y := by simp [pb]
    rw [e1, e2] at h
    obtain ⟨h1, h2⟩ := List.append_inj h (by simp [nb_length])
    rw [num_inj (hx a (by simp)) (hy b (by simp)) h1, pb_inj (fun z hz => hx z (by simp [hz])) (fun z hz => hy z (by simp [hz])) (by simpa using hl) h2]
theorem str_inj {s t : ByteArray} (h : Lib.strCells s = Lib.strCells t) : s.data.toList = t.data.toList := by
  have : ∀ x y : List UInt8, x.map (fun b => Value.int .u8 (b.toNat : Int)) = y.map (fun b => Value.int .u8 (b.toNat : Int)) → x = y := by
    intro x
    induction x with
    | nil => intro y h; cases y with
      | nil => rfl
      | cons b y => simp at h
    | cons a x ih => intro y h; cases y with
      | nil => simp at h
      | cons b y =>
        simp at h
        have e : a = b := UInt8.toNat_inj.1 (by have := h.1; omega)
        rw [e, ih y (by simpa using h.2)]
  exact this _ _ (by simpa [Lib.strCells] using h)
def KOk (k : Int) : Prop := k = 0 ∨ k = 1 ∨ k = 2 ∨ k = 3 ∨ k = 4 ∨ k = 5 ∨ k = 6
theorem encV_head (k : Int) (b : Bool) (n : Int) (s : ByteArray) (l : Nat) (z : List Int) : (encV k b n s l z true).head? = some (.int .u8 k) := by
  unfold encV
  rw [if_neg (by decide)]
  by_cases h0 : k = 0
  · simp [h0]
  · by_cases h1 : k = 1
    · simp [h1]
    · by_cases h3 : k = 3
      · simp [h3]
      · by_cases h6 : k = 6
        · simp [h6]
        · simp [h0, h1, h3, h6]
theorem enc_alike (k1 : Int) (b1 : Bool) (n1 : Int) (s1 : ByteArray) (z1 : List Int) (k2 : Int) (b2 : Bool) (n2 : Int) (s2 : ByteArray) (z2 : List Int) (K1 : KOk k1)
    (N1 : -9223372036854775808 ≤ n1 ∧ n1 ≤ 9223372036854775807) (N2 : -9223372036854775808 ≤ n2 ∧ n2 ≤ 9223372036854775807) (Z1 : ∀ z ∈ z1, -9223372036854775808 ≤ z ∧ z ≤ 9223372036854775807) (Z2 : ∀ z ∈ z2, -9223372036854775808 ≤ z ∧ z ≤ 9223372036854775807) :
    ordV k1 b1 n1 s1 z1 k2 b2 n2 s2 z2 = 0 ↔ encV k1 b1 n1 s1 z1.length z1 true = encV k2 b2 n2 s2 z2.length z2 true := by
  by_cases hk : k1 = k2
  · subst hk
    unfold ordV
    rw [if_neg (by simp)]
    rcases K1 with rfl | rfl | rfl | rfl | rfl | rfl | rfl
    · simp [encV]
    · cases b1 <;> cases b2 <;> simp [encV, bitI, cmpI]
    · constructor
      · intro h; have e : n1 = n2 := cmpI_zero (by simpa using h); rw [e]; simp [encV]
      · intro h; rw [num_inj N1 N2 (by simpa [encV] using h)]; simp [cmpI_self]
    · constructor
      · intro h
        have e : s1.data.toList = s2.data.toList := cmpB_zero (by simpa using h)
        have e2 : s1 = s2 := by cases s1; cases s2; simp at e; simp [e]
        rw [e2]; simp [encV]
      · intro h
        simp [encV] at h
        rw [str_inj (List.append_inj h (by simp [nb_length])).2]
        simp [cmpB_self]
    · constructor
      · intro h; have e : n1 = n2 := cmpI_zero (by simpa using h); rw [e]; simp [encV]
      · intro h; rw [num_inj N1 N2 (by simpa [encV] using h)]; simp [cmpI_self]
    · constructor
      · intro h; have e : n1 = n2 := cmpI_zero (by simpa using h); rw [e]; simp [encV]
      · intro h; rw [num_inj N1 N2 (by simpa [encV] using h)]; simp [cmpI_self]
    · constructor
      · intro h; have e : z1 = z2 := cmpZ_zero (by simpa using h); rw [e]; simp [encV]
      · intro h
        simp [encV] at h
        rw [pb_inj Z1 Z2 (by have := h.1; omega) h.2]
        simp [cmpZ_self]
  · have h1 : ordV k1 b1 n1 s1 z1 k2 b2 n2 s2 z2 ≠ 0 := by
      unfold ordV
      rw [if_pos hk]
      exact fun h => hk (cmpI_zero h)
    refine ⟨fun h => absurd h h1, fun h => ?_⟩
    have e1 := encV_head k1 b1 n1 s1 z1.length z1
    rw [h, encV_head] at e1
    simp at e1
    exact absurd e1.symm hk

/-- Bytes. -/
def InB (zs : List Int) : Prop := ∀ z ∈ zs, 0 ≤ z ∧ z < 256
theorem nums_inj : ∀ {x y : List Int}, InB x → InB y → strOfNums x = strOfNums y → x = y := by
  have : ∀ x y : List Int, InB x → InB y → (x.map fun n => UInt8.ofNat n.toNat) = (y.map fun n => UInt8.ofNat n.toNat) → x = y := by
    intro x
    induction x with
    | nil => intro y _ _ h; cases y with
      | nil => rfl
      | cons b y => simp at h
    | cons a x ih => intro y hx hy h; cases y with
      | nil => simp at h
      | cons b y =>
        simp only [List.map_cons, List.cons.injEq] at h
        have ha := hx a (by simp)
        have hb := hy b (by simp)
        have e := congrArg UInt8.toNat h.1
        simp at e
        have : a = b := by omega
        rw [this, ih y (fun z hz => hx z (by simp [hz])) (fun z hz => hy z (by simp [hz])) h.2]
  intro x y hx hy h
  exact this x y hx hy (by have := congrArg (fun s => s.data.toList) h; simpa [strOfNums] using this)
theorem enc_nums (k : Int) (b : Bool) (n : Int) (s : ByteArray) (z : List Int) (K : KOk k) (L : k = 6 → z.length ≤ 9) : ∃ zs, encV k b n s z.length z true = zs.map (.int .u8) ∧ InB zs := by
  have hnb : ∀ (u : Int) (wide : Nat), ∃ zs : List Int, nb u wide = zs.map (Value.int .u8) ∧ InB zs := fun u wide => ⟨(List.range wide).map fun j => u / 2 ^ (8 * (wide - 1 - j)) % 256, by simp [nb, nbv], fun z hz => by
    simp at hz
    obtain ⟨j, _, rfl⟩ := hz
    omega⟩
  have hpb : ∀ z : List Int, ∃ zs : List Int, pb z = zs.map (Value.int .u8) ∧ InB zs := by
    intro z
    induction z with
    | nil => exact ⟨[], rfl, fun z hz => by simp at hz⟩
    | cons x z ih =>
      obtain ⟨a, ha, ha'⟩ := hnb (IntKind.u64.wrap x) 8
      obtain ⟨c, hc, hc'⟩ := ih
      refine ⟨a ++ c, ?_, fun y hy => ?_⟩
      · have e : pb (x :: z) = nb (IntKind.u64.wrap x) 8 ++ pb z := by simp [pb]
        rw [e, ha, hc, List.map_append]
      · rcases List.mem_append.1 hy with h | h
        · exact ha' y h
        · exact hc' y h
  have hst : InB (s.data.toList.map fun x => (x.toNat : Int)) := fun y hy => by
    simp at hy
    obtain ⟨x, _, rfl⟩ := hy
    have := x.toNat_lt
    omega
  have app : ∀ {x y : List Int}, InB x → InB y → InB (x ++ y) := fun hx hy z hz => by
    rcases List.mem_append.1 hz with h | h
    · exact hx z h
    · exact hy z h
  obtain ⟨a1, h1, i1⟩ := hnb s.size 4
  obtain ⟨a2, h2, i2⟩ := hnb (IntKind.u64.wrap n) 8
  obtain ⟨a3, h3, i3⟩ := hpb z
  rcases K with rfl | rfl | rfl | rfl | rfl | rfl | rfl
  · exact ⟨[0], by simp [encV], fun y hy => by simp at hy; omega⟩
  · exact ⟨[1, bitI b], by simp [encV], fun y hy => by simp [bitI] at hy; rcases hy with rfl | rfl; omega; split <;> omega⟩
  · exact ⟨[2] ++ a2, by simp [encV, h2], app (fun y hy => by simp at hy; omega) i2⟩
  · exact ⟨[3] ++ (a1 ++ s.data.toList.map fun x => (x.toNat : Int)), by simp [encV, h1, Lib.strCells], app (fun y hy => by simp at hy; omega) (app i1 hst)⟩
  · exact ⟨[4] ++ a2, by simp [encV, h2], app (fun y hy => by simp at hy; omega) i2⟩
  · exact ⟨[5] ++ a2, by simp [encV, h2], app (fun y hy => by simp at hy; omega) i2⟩
  · have := L rfl
    exact ⟨[6, (z.length : Int)] ++ a3, by simp [encV, h3], app (fun y hy => by simp at hy; omega) i3⟩
end Go.Proofs.YtokkmjcpjjiaaaaDoor
