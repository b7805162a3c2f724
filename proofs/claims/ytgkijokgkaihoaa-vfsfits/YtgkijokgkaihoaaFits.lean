/-
  VfsFits: the walk of the statement's own text.
-/
import Derived.Test.YtgkijokgkaihoaaHead
import Derived.OpenShut
namespace Go.Proofs.Ytgkijokgkaihoaa
open Go.RowKit Go.WideMaps Go.Maps

theorem info5 : (Try.prog.info? 5).map (fun i => (i.zero, i.size, i.bytes)) = some (some (.int .u8 0), 1, 1) := by kernel_rfl

/-- A page of noughts. -/
def zeros (k : Nat) : List UInt8 := List.replicate k 0
def zObj (k : Nat) : Obj := .cells ((zeros k).map byV).toArray 5

theorem make29 (z : Int) (h0 : 0 ≤ z) (h : z ≤ 1024) (w : World) :
    (Instr.makeSlice 29 (.int .i64 z) (.int .i64 z)).run Try.prog w = .ok (.slice (some ⟨w.heap.size, 0, none⟩) z.toNat z.toNat) (w.alloc (zObj z.toNat)) := by
  obtain ⟨k, rfl⟩ := Int.eq_ofNat_of_zero_le h0
  rw [Int.toNat_natCast]
  obtain ⟨i0, hi, hz0, hz1, hz2⟩ := info_parts info5
  rw [run_make w 29 5 i0 _ Try.underlying29 hi hz0 .i64 .i64 k k (by omega) (by omega) (by rw [hz2]; omega) (by omega)]
  have e : madeCells (Value.int .u8 0).cells (k * 1) = ((zeros k).map byV).toArray := by
    apply Array.ext
    · simp [madeCells, zeros]
    · intro i h1 h2
      simp [madeCells, zeros, Value.cells, byV, Nat.mod_one]
  simp [hz1, zObj]
  rw [← e]
  simp

/-- The file system of this statement: one file alone, whose bytes are all that there are. -/
structure One (S : St) (q : Int) (i : Nat) : Prop where
  quota : S.quota = q
  fs : S.fs = []
  calls : S.calls ≤ i
  size : S.size = bys (S.C [97])

theorem One.cnt {S : St} {q : Int} {i : Nat} (h : One S q i) : One (cntSt S) q (i + 1) := ⟨h.quota, h.fs, by have := h.calls; simp only [cntSt]; omega, h.size⟩
theorem One.del {S : St} {q : Int} {i : Nat} (h : One S q i) : One (delSt S [97]) q i ∧ (delSt S [97]).size = 0 := by
  have h0 : (delSt S [97]).size = 0 := by have := h.size; simp only [delSt]; omega
  exact ⟨⟨h.quota, h.fs, h.calls, by rw [h0]; simp [delSt, bys]⟩, h0⟩
theorem One.put {S : St} {q : Int} {i : Nat} (h : One S q i) (v u : Value) (pg : List UInt8) : One (putSt S [97] v (u, pg)) q i := by
  refine ⟨h.quota, h.fs, h.calls, ?_⟩
  have := h.size
  simp only [putSt, if_true, bys_append, bys]
  omega
theorem One.there {S : St} {q : Int} {i : Nat} (h : One S q i) (h0 : 0 < S.size) : thr S [97] = true := by
  unfold thr
  cases hc : S.C [97]
  · have := h.size; rw [hc] at this; simp [bys] at this; omega
  · rfl
theorem One.hit {S : St} {q : Int} {i : Nat} (h : One S q i) (x : Int) : hit S.fs x = false := by rw [h.fs]; rfl

theorem put_size {S : St} {x : Int} {m : Nat} (h : x = (m : Int)) (v u : Value) : (putSt (cntSt S) [97] v (u, zeros m)).size = S.size + x := by
  rw [h]; simp [putSt, cntSt, zeros]

theorem bytes_zero (w : World) (k : Nat) : BytesAt (w.alloc (zObj k)) ⟨w.heap.size, 0, none⟩ (zeros k) := bytes_new w 5 (0, 0) (zeros k)

set_option maxRecDepth 100000 in
theorem fits_walk (q : Int) (a1 : Option Addr) (n c : Nat) (zs : List Int) (w : World) (q0 : 0 ≤ q) (q1 : q ≤ 65535) (hn : n ≤ 140737488355328)
    (hrow : n = 0 ∨ ∃ b off, a1 = some ⟨b, off, none⟩ ∧ ∀ i, i < n → w.cell? ⟨b, off + i, none⟩ = some (.int .u16 (zs.getD i 0))) (hwf : ∀ i, 0 ≤ zs.getD i 0 ∧ zs.getD i 0 ≤ 65535) :
    Calls Try.prog 8 #[.int .u16 q, .slice a1 n c] w fun e w' => e = .returned (.bool true) ∧ Below w.heap.size w w' := by
  go_enter Try.func8, Try.ntmps8
  go_wp2_with (first
    | (go_at_call 9; refine (head_any _).mono ?_; rintro e w1 ⟨rfl, b1⟩)
    | (go_at_call 10; refine (New_nil _ _ (by omega) (by omega)).mono ?_; rintro e w2 ⟨p, mb, fv, rfl, h2, b2⟩))
  have b12 : Below w.heap.size w w2 := b1.trans (b2.mono b1.size)
  have hB := b1.size
  generalize w1.heap.size = B at h2 hB
  clear b1 b2
  go_loopw [7, 8] (fun nn i wr => ∃ (k : Nat) (S : St), k ≤ n ∧ i = .int .i64 k ∧ nn = .int .i64 S.size ∧ FsAt wr B p mb fv S ∧ Below w.heap.size w wr ∧ One S q k) (fun _ i _ => n - (intOf i).toNat)
  case atStart => exact ⟨0, newSt q [], Nat.zero_le _, rfl, rfl, h2, b12, ⟨rfl, rfl, by simp [newSt], rfl⟩⟩
  case round =>
    obtain ⟨k, S, hk, rfl, rfl, hf, hbw, hone⟩ := hrel
    by_cases hlt : k < n
    · rcases hrow with h0 | ⟨b, off, rfl, hcell⟩
      · omega
      have hc1 : wr.cell? ⟨b, off + k, none⟩ = some (.int .u16 (zs.getD k 0)) := by
        have hx := hcell k hlt
        exact (hbw.cell (World.block_lt_of_cell? w _ hx)).trans hx
      have hz := hwf k
      clear hcell hwf
      generalize zs.getD k 0 = z at hc1 hz
      obtain ⟨z0, z1⟩ := hz
      obtain ⟨m, hm⟩ : ∃ m : Nat, z % 1024 + 1 = (m : Int) := ⟨(z % 1024 + 1).toNat, by omega⟩
      have hmk : ∀ w, (Instr.makeSlice 29 (.int .i64 (z % 1024 + 1)) (.int .i64 (z % 1024 + 1))).run Try.prog w = .ok (.slice (some ⟨w.heap.size, 0, none⟩) m m) (w.alloc (zObj m)) := fun w => by
        rw [hm, make29 _ (by omega) (by omega), Int.toNat_natCast]
      have HM : Hid (z % 1024 + 1 = (m : Int)) := hm
      have m1 : 1 ≤ m := by omega
      have m2 : m ≤ 1024 := by omega
      clear hm
      have hfa := hf.alloc (zObj m)
      have hhit := hone.hit (S.calls + 1)
      have hcalls : S.calls < 1125899906842624 - 1 := by have := hone.calls; omega
      have hone1 := hone.cnt
      have s0 := hf.size_nonneg
      have s1 := hf.s1
      have Hq : Hid (S.quota = q) := hone.quota
      have hba : Below w.heap.size w (wr.alloc (zObj m)) := hbw.alloc hbw.size _
      clear hf hbw
      have hB' : w.heap.size ≤ B := hB
      have HB : Hid (∀ {wx : World}, FsFr p mb S.D (wr.alloc (zObj m)) wx → Below w.heap.size w wx) := fun {wx} hx => hba.trans ((hx.below hfa).mono hB)
      have hthere := hone1.there
      have hdel := hone1.del
      clear hone hba h2 b12
      cases hg : grw S [97]
      · by_cases hq : q < S.size + (z % 1024 + 1)
        · by_cases hp : 0 < S.size
          · go_wp2_with (first
              | (go_at_call 12; refine (Append_many hfa _ szA _ m m nmA m1 m2 (by omega) hhit hg).mono ?_; rintro e w3 ⟨rfl, h3, b3⟩)
              | (go_at_call 16; refine (Delete_ok h3 (by simp only [cntSt]; omega) _ szA (hthere hp)).mono ?_; rintro e w4 ⟨rfl, h4, b4⟩))
            go_roundw
            case rel => exact ⟨k + 1, delSt (cntSt S) [97], by omega, by go_num, by rw [hdel.2], h4, (HB.out b3).trans ((b4.below h3).mono hB), hdel.1⟩
            case measure => simp [intOf]; omega
          · have hs0 : S.size = 0 := by omega
            have Hs0 : Hid (S.size = 0) := hs0
            clear hs0
            go_wp2_with (first
              | (go_at_call 12; refine (Append_many hfa _ szA _ m m nmA m1 m2 (by omega) hhit hg).mono ?_; rintro e w3 ⟨rfl, h3, b3⟩))
            go_roundw
            case rel => exact ⟨k + 1, cntSt S, by omega, by go_num, by simp only [cntSt]; rw [Hs0.out], h3, HB.out b3, hone1⟩
            case measure => simp [intOf]; omega
        · go_wp2_with (first
              | (go_at_call 12; refine (Append_many hfa _ szA _ m m nmA m1 m2 (by omega) hhit hg).mono ?_; rintro e w3 ⟨rfl, h3, b3⟩))
          go_ret
          exact ⟨rfl, HB.out b3⟩
      · by_cases hq : q < S.size + (z % 1024 + 1)
        · by_cases hp : 0 < S.size
          · go_wp2_with (first
              | (go_at_call 12; refine (Append_quota hfa _ szA _ m m nmA m1 m2 (by omega) hhit hg (by rw [Hq.out, ← HM.out]; exact hq)).mono ?_; rintro e w3 ⟨rfl, h3, b3⟩)
              | (go_at_call 16; refine (Delete_ok h3 (by simp only [cntSt]; omega) _ szA (hthere hp)).mono ?_; rintro e w4 ⟨rfl, h4, b4⟩))
            go_roundw
            case rel => exact ⟨k + 1, delSt (cntSt S) [97], by omega, by go_num, by rw [hdel.2], h4, (HB.out b3).trans ((b4.below h3).mono hB), hdel.1⟩
            case measure => simp [intOf]; omega
          · have hs0 : S.size = 0 := by omega
            have Hs0 : Hid (S.size = 0) := hs0
            clear hs0
            go_wp2_with (first
              | (go_at_call 12; refine (Append_quota hfa _ szA _ m m nmA m1 m2 (by omega) hhit hg (by rw [Hq.out, ← HM.out]; exact hq)).mono ?_; rintro e w3 ⟨rfl, h3, b3⟩))
            go_roundw
            case rel => exact ⟨k + 1, cntSt S, by omega, by go_num, by simp only [cntSt]; rw [Hs0.out], h3, HB.out b3, hone1⟩
            case measure => simp [intOf]; omega
        · go_wp2_with (first
            | (go_at_call 12; refine (Append_ok hfa _ szA _ m m (zeros m) (by simp [zeros]) (bytes_zero wr m) nmA m1 m2 (by omega) hhit hg (by rw [Hq.out, ← HM.out]; omega)).mono ?_; rintro e w3 ⟨rfl, ⟨v3, u3, h3⟩, b3⟩)
            | (go_at_call 21; refine (Size_any h3).mono ?_; rintro e w4 ⟨rfl, rfl⟩; rw [put_size HM.out]))
          go_roundw
          case rel => exact ⟨k + 1, _, by omega, by go_num, by rw [put_size HM.out], h3, HB.out b3, hone1.put _ _ _⟩
          case measure => simp [intOf]; omega
    · go_wp2
      go_ret
      exact ⟨rfl, hbw⟩
end Go.Proofs.Ytgkijokgkaihoaa
