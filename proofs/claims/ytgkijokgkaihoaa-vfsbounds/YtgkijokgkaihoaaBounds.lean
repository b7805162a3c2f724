/-
  VfsBounds: the walk of the statement's own text.
-/
import Derived.Test.YtgkijokgkaihoaaBnd
import Derived.Test.YtgkijokgkaihoaaHead
import Derived.Test.YtgkijokgkaihoaaNew2
import Derived.WalkLawsBesides
import Derived.Deep.RegionHeld3
namespace Go.Proofs.Ytgkijokgkaihoaa
open Go.RowKit Go.WideMaps Go.Maps
section
variable {w w' : World} {base p mb : Nat} {fv : Value} {S : St}

theorem Names_form (h : FsAt w base p mb fv S) :
    Calls Try.prog 22 #[.pointer (some ⟨p, 0, none⟩)] w fun e w' => ∃ av cap, e = .returned (.slice av (nms S).length cap) ∧ w'.ownsRow w.heap.size 9 1 (.slice av (nms S).length cap) (nms S).length ((nms S).map encStr) ∧ Below w.heap.size w w' := by
  refine (Names_any h).mono ?_
  rintro e w' ⟨v, rfl, hr, hb⟩
  obtain ⟨av, cap, rfl⟩ := row_form hr
  exact ⟨av, cap, rfl, hr, hb⟩

theorem nms_nodup (h : FsAt w base p mb fv S) : (nms S).Nodup :=
  (nms_lt h).imp fun {a b} hl e => by
    subst e
    rw [bytesLess_eq] at hl
    exact absurd (of_decide_eq_true hl) (List.lt_irrefl _)

/-- The copy of a call that the statement works with. -/
def boxOf (x : OpV) : Obj := .cells #[.int .i64 x.what, .string x.name, .slice x.av x.bl x.bc, .int .i64 x.num] 31
structure Box (w : World) (g : Nat) (x : OpV) : Prop where
  blk : w.heap[g]? = some (boxOf x)
theorem Box.k0 {g : Nat} {x : OpV} (h : Box w g x) : w.cell? ⟨g, 0, none⟩ = some (.int .i64 x.what) := by simp [World.cell?, h.blk, boxOf]
theorem Box.k1 {g : Nat} {x : OpV} (h : Box w g x) : w.cell? ⟨g, 1, none⟩ = some (.string x.name) := by simp [World.cell?, h.blk, boxOf]
theorem Box.k2 {g : Nat} {x : OpV} (h : Box w g x) : w.cell? ⟨g, 2, none⟩ = some (.slice x.av x.bl x.bc) := by simp [World.cell?, h.blk, boxOf]
theorem Box.k3 {g : Nat} {x : OpV} (h : Box w g x) : w.cell? ⟨g, 3, none⟩ = some (.int .i64 x.num) := by simp [World.cell?, h.blk, boxOf]
theorem Box.lt {g : Nat} {x : OpV} (h : Box w g x) : g < w.heap.size := (Array.getElem?_eq_some_iff.1 h.blk).1
theorem Box.below {g : Nat} {x : OpV} (h : Box w g x) (hb : Below w.heap.size w w') : Box w' g x := ⟨(hb.block g h.lt).trans h.blk⟩
theorem Box.fr {g : Nat} {x : OpV} (h : Box w g x) (hf : FsAt w base p mb fv S) (hr : FsFr p mb S.D w w') : Box w' g x := by
  refine ⟨(hr.block g h.lt ?_ ?_ ?_).trans h.blk⟩
  · intro e; subst e; have := h.blk; rw [hf.blk] at this; simp [boxOf] at this
  · intro e; subst e
    obtain ⟨es, clock, hm⟩ := map_blk hf.map
    have := h.blk; rw [hm] at this; simp [boxOf] at this
  · intro s e
    obtain ⟨cur, hc⟩ := row_blk (hf.pgs s).1 e
    have := h.blk; rw [hc] at this; simp [boxOf] at this
theorem Box.new (x : OpV) : Box (w.alloc (boxOf x)) w.heap.size x := ⟨heap_alloc_new w _⟩
theorem Box.drewN {g : Nat} {x : OpV} (h : Box w g x) (n : Nat) : Box (w.drewN n) g x := ⟨h.blk⟩

/-- Behind Delete the file is not there; the rest is as it was. -/
theorem Delete_one (h : FsAt w base p mb fv S) (s : ByteArray) (hs : s.size ≤ maxLen) (hc : S.calls < 1125899906842624) :
    Calls Try.prog 16 #[.pointer (some ⟨p, 0, none⟩), .string s] w fun e w' => (∃ er : Int, e = .returned (.int .i64 er)) ∧
      ∃ S', FsAt w' base p mb fv S' ∧ FsFr p mb S.D w w' ∧ S'.C s.data.toList = [] ∧ (S' = S ∨ S' = delSt S s.data.toList) := by
  refine (Delete_any h s hs hc).mono ?_
  rintro e w' ⟨rfl, hf, hr⟩
  refine ⟨⟨_, rfl⟩, _, hf, hr, ?_, ?_⟩
  · split
    · simp [delSt]
    · rename_i ht
      simpa [thr] using ht
  · split
    · exact .inr rfl
    · exact .inl rfl

/-- Delete of a name that is told. -/
theorem Delete_tt (h : FsAt w base p mb fv S) (hc : S.calls < 1125899906842624) {t : List UInt8} (hl : t.length ≤ maxLen) (ht : thr S t = true) :
    Calls Try.prog 16 #[.pointer (some ⟨p, 0, none⟩), .string ⟨t.toArray⟩] w fun e w' => e = .returned (.int .i64 0) ∧ FsAt w' base p mb fv (delSt S t) ∧ FsFr p mb S.D w w' :=
  Delete_ok h hc ⟨t.toArray⟩ (by simpa [ByteArray.size] using hl) ht

/-- The two kinds of answers. -/
theorem Apd.split {S' : St} {s pg : List UInt8} {er q : Int} {zs : List Int} {k : Nat} (h : Apd S s pg er S') (hb : Bnd S q zs k) :
    (er ≠ 0 ∧ S'.size = S.size ∧ S'.C = S.C ∧ S'.D = S.D ∧ Bnd S' q zs (k + 1) ∧ (zs = [] → er ≠ 13)) ∨ (er = 0 ∧ S'.size = S.size + pg.length ∧ (S'.C s).length = (S.C s).length + 1 ∧ Bnd S' q zs (k + 1)) := by
  rcases h with ⟨h1, rfl⟩ | ⟨h1, rfl⟩ | ⟨rfl, _, hq, v, u, rfl⟩
  · left
    refine ⟨by omega, rfl, rfl, rfl, hb.mono (by omega), fun _ => by omega⟩
  · left
    refine ⟨by omega, rfl, rfl, rfl, hb.cnt, fun hz he => ?_⟩
    rcases h1 with ⟨_, hh⟩ | h1 | ⟨h1, _⟩
    · rw [hb.nohit hz] at hh; cases hh
    · omega
    · omega
  · right
    exact ⟨rfl, rfl, by simp [putSt, cntSt], hb.put _ _ _ _ hq⟩
end

set_option maxRecDepth 100000 in
set_option maxHeartbeats 2000000 in
theorem bounds_walk (qt : Int) (fa : Option Addr) (fc : Nat) (zs : List Int) (a1 : Option Addr) (n c : Nat) (D : Nat → OpV) (w : World) (q0 : -9223372036854775808 ≤ qt) (q1 : qt ≤ 9223372036854775807) (hfn : zs.length * 8 ≤ 140737488355328)
    (hfr : zs = [] ∨ ∃ b off, fa = some ⟨b, off, none⟩ ∧ ∀ i, i < zs.length → w.cell? ⟨b, off + i, none⟩ = some (.int .i64 (zs.getD i 0)))
    (hn : n ≤ 140737488355328) (hops : OpsAt w a1 n D) :
    Calls Try.prog 5 #[.int .i64 qt, .slice fa zs.length fc, .slice a1 n c] w fun e w' => e = .returned (.bool true) ∧ Below w.heap.size w w' := by
  go_enter Try.func5, Try.ntmps5
  go_wp2_with (first
    | (go_at_call 9; refine (head_any _).mono ?_; rintro e w1 ⟨rfl, b1⟩)
    | (go_at_call 10; refine (New_any _ fa fc zs _ q0 q1 hfn (faults_below hfr b1)).mono ?_; rintro e w2 ⟨p, mb, fv, rfl, h2, b2⟩))
  have b12 : Below w.heap.size w w2 := b1.trans (b2.mono b1.size)
  have hB := b1.size
  generalize w1.heap.size = B at h2 hB
  clear b1 b2
  go_loopw [9] (fun i wr => ∃ (k : Nat) (S : St), k ≤ n ∧ i = .int .i64 k ∧ FsAt wr B p mb fv S ∧ Below w.heap.size w wr ∧ Bnd S qt zs k) (fun i _ => n - (intOf i).toNat)
  case atStart => exact ⟨0, _, Nat.zero_le _, rfl, h2, b12, ⟨rfl, fun e => by subst e; simp [newSt, rise], fun _ => rfl, by simp [newSt], by simp [newSt]; omega⟩⟩
  case round =>
    obtain ⟨k, S, hk, rfl, hf, hbw, hbd⟩ := hrel
    by_cases hlt : k < n
    · rcases hops with h0 | ⟨b, off, rfl, hall⟩
      · omega
      have hop := (hall k hlt).below hbw
      generalize D k = x at hop
      clear hall h2 b12 hfr
      have k0 := hop.c0
      have k1 := hop.c1
      have k2 := hop.c2
      have k3 := hop.c3
      have hcs : S.calls < 1125899906842624 := by have := hbd.calls; omega
      have hfa := hf.alloc (boxOf x)
      have hbx : Box (wr.alloc (boxOf x)) wr.heap.size x := Box.new x
      have hbal : Below wr.heap.size wr (wr.alloc (boxOf x)) := (Below.refl _ _).alloc (Nat.le_refl _) _
      have hbwa : Below w.heap.size w (wr.alloc (boxOf x)) := hbw.trans (hbal.mono hbw.size)
      have hpa := hop.byt.below hbal
      simp only [boxOf] at hfa hbx hbwa hpa
      go_wp2_with (first
        | (go_at_call 21; refine (Size_any hfa).mono ?_; rintro e w3 ⟨rfl, rfl⟩)
        | (go_at_call 19; refine (Pages_any hfa _ hop.nm).mono ?_; rintro e w3 ⟨rfl, rfl⟩)
        | (go_at_call 22; refine (Names_form hfa).mono ?_; rintro e w4 ⟨av4, cap4, rfl, hrow4, hb4⟩; have hbx4 := hbx.below hb4; have q1 := hbx4.k1; have q2 := hbx4.k2))
      have hf4 := hfa.below hb4
      have hpa4 := hpa.below hb4
      have hbw4 : Below w.heap.size w w4 := hbwa.trans (hb4.mono hbwa.size)
      clear hb4 hrow4 hpa hbwa hbal hfa hbx k0 k1 k2 k3
      refine (Append_any hf4 x.name hop.nm x.av x.bl x.bc x.pg hop.len hpa4 hcs).mono ?_
      rintro e w5 ⟨rfl, S', hf5, hr5, hap⟩
      have hbx5 := hbx4.fr hf4 hr5
      have hbw5 : Below w.heap.size w w5 := hbw4.trans ((hr5.below hf4).mono hB)
      have sS : 0 ≤ S.size := hf4.size_nonneg
      have hnm := hop.nm
      have hln := hop.len
      have g0 := hbx5.k0
      have g1 := hbx5.k1
      have g2 := hbx5.k2
      clear hf4 hpa4 hbw4 hbx4 hr5 q1 q2 hop hf hbw
      generalize apErr S x.name x.bl = er at hap
      generalize wr.heap.size = G at *
      have hmq : Bnd S qt zs k := hbd
      rcases hap.split hbd with ⟨he, hs, hC, hD, hbd', h13⟩ | ⟨rfl, hs, hC, hbd'⟩
      · have e0 : (er != 0) = true := by simpa using he
        have e1 : (er == 0) = false := by simpa using he
        have hnl : (nms S').length = (nms S).length := by unfold nms; rw [hD]
        have hCl : (S'.C x.name.data.toList).length = (S.C x.name.data.toList).length := by rw [hC]
        clear hap he hC hD hbd
        go_wp2_with (first
          | (go_at_call 21; refine (Size_any hf5).mono ?_; rintro e w6 ⟨rfl, rfl⟩; rw [hs])
          | (go_at_call 19; refine (Pages_any hf5 _ hnm).mono ?_; rintro e w6 ⟨rfl, rfl⟩; rw [hCl])
          | (go_at_call 22; refine (Names_form hf5).mono ?_; rintro e w6 ⟨av6, cap6, rfl, hrow6, hb6⟩; rw [hnl]))
        go_quiet (fail)
        have hf7 := (hf5.below hb6).drewN nq
        have hbx7 := (hbx5.below hb6).drewN nq
        have hbw7 : Below w.heap.size w (w6.drewN nq) := by
          have := hbw5.trans (hb6.mono hbw5.size)
          exact ⟨this.os, this.tape, this.output, this.size, this.block⟩
        generalize w6.drewN nq = w7 at hf7 hbx7 hbw7 ⊢
        clear hf5 hbx5 hb6 hrow6 hbw5 g0 g1 g2 hs hnl hCl e0 e1
        have hmx : decide (max qt 0 < S'.size) = false := decide_eq_false (by have := hbd'.size; omega)
        have hcs' : S'.calls < 1125899906842624 := by have := hbd'.calls; omega
        have g0 := hbx7.k0
        have g1 := hbx7.k1
        by_cases hz : zs = []
        · have hz0 : ((zs.length : Int) == 0) = true := by subst hz; rfl
          have he13 : (er == 13) = false := by simpa using h13 hz
          have hfl := hbd'.failed hz
          clear hz h13
          go_wp2_with (first
            | (go_at_call 21; refine (Size_any hf7).mono ?_; rintro e w8 ⟨rfl, rfl⟩)
            | (go_at_call 23; refine (Failed_any hf7).mono ?_; rintro e w8 ⟨rfl, rfl⟩; rw [hfl]))
          · refine (Delete_one hf7 x.name hnm hcs').mono ?_
            rintro e w9 ⟨⟨er9, rfl⟩, S9, hf9, hr9, hC9, hS9⟩
            have hbx9 := hbx7.fr hf7 hr9
            have g1' := hbx9.k1
            have hbw9 : Below w.heap.size w w9 := hbw7.trans ((hr9.below hf7).mono hB)
            have hbd9 : Bnd S9 qt zs (k + 1) := by
              rcases hS9 with rfl | rfl
              · exact hbd'
              · exact hbd'.del _
            clear hS9
            go_wp2_with (first
              | (go_at_call 19; refine (Pages_any hf9 _ hnm).mono ?_; rintro e w10 ⟨rfl, rfl⟩; rw [hC9]))
            go_roundw
            case rel => exact ⟨k + 1, S9, by omega, by go_num, hf9, hbw9, hbd9⟩
            case measure => simp [intOf]; omega
          · go_roundw
            case rel => exact ⟨k + 1, S', by omega, by go_num, hf7, hbw7, hbd'⟩
            case measure => simp [intOf]; omega
        · have hz0 : ((zs.length : Int) == 0) = false := by simpa using hz
          go_wp2_with (first
            | (go_at_call 21; refine (Size_any hf7).mono ?_; rintro e w8 ⟨rfl, rfl⟩))
          · refine (Delete_one hf7 x.name hnm hcs').mono ?_
            rintro e w9 ⟨⟨er9, rfl⟩, S9, hf9, hr9, hC9, hS9⟩
            have hbx9 := hbx7.fr hf7 hr9
            have g1' := hbx9.k1
            have hbw9 : Below w.heap.size w w9 := hbw7.trans ((hr9.below hf7).mono hB)
            have hbd9 : Bnd S9 qt zs (k + 1) := by
              rcases hS9 with rfl | rfl
              · exact hbd'
              · exact hbd'.del _
            clear hS9
            go_wp2_with (first
              | (go_at_call 19; refine (Pages_any hf9 _ hnm).mono ?_; rintro e w10 ⟨rfl, rfl⟩; rw [hC9]))
            go_roundw
            case rel => exact ⟨k + 1, S9, by omega, by go_num, hf9, hbw9, hbd9⟩
            case measure => simp [intOf]; omega
          · go_roundw
            case rel => exact ⟨k + 1, S', by omega, by go_num, hf7, hbw7, hbd'⟩
            case measure => simp [intOf]; omega
      · have hss : (S'.size != S.size + (x.bl : Int)) = false := by rw [hs, hln]; simp
        have hpp : (((S'.C x.name.data.toList).length : Int) != ((S.C x.name.data.toList).length : Int) + 1) = false := by rw [hC]; simp
        have s0 := hf5.size_nonneg
        have s1 := hf5.s1
        have hc7 := hbd'.calls
        have hpk := (hf5.pok x.name.data.toList).1
        rw [hs] at s0 s1
        rw [hln] at s0 s1
        clear hap hbd
        go_wp2_with fail
        go_quiet (first | (go_at_call 21; exact Calls.quiet_of_same (Size_any (hf5.drewN _))) | (go_at_call 19; exact Calls.quiet_of_same (Pages_any (hf5.drewN _) _ hnm)))
        have hf7 := hf5.drewN nq
        have hbx7 := hbx5.drewN nq
        have hbw7 : Below w.heap.size w (w5.drewN nq) := ⟨hbw5.os, hbw5.tape, hbw5.output, hbw5.size, hbw5.block⟩
        generalize w5.drewN nq = w7 at hf7 hbx7 hbw7 ⊢
        clear hf5 hbx5 hbw5 g0 g1 g2 hs hss hpp hC s0 s1 hpk
        have hmx : decide (max qt 0 < S'.size) = false := decide_eq_false (by have := hbd'.size; omega)
        have hcs' : S'.calls < 1125899906842624 := by have := hbd'.calls; omega
        have g0 := hbx7.k0
        have g1 := hbx7.k1
        by_cases hz : zs = []
        · have hz0 : ((zs.length : Int) == 0) = true := by subst hz; rfl
          have he13 : ((0 : Int) == 13) = false := rfl
          have hfl := hbd'.failed hz
          clear hz
          go_wp2_with (first
            | (go_at_call 21; refine (Size_any hf7).mono ?_; rintro e w8 ⟨rfl, rfl⟩)
            | (go_at_call 23; refine (Failed_any hf7).mono ?_; rintro e w8 ⟨rfl, rfl⟩; rw [hfl]))
          · refine (Delete_one hf7 x.name hnm hcs').mono ?_
            rintro e w9 ⟨⟨er9, rfl⟩, S9, hf9, hr9, hC9, hS9⟩
            have hbx9 := hbx7.fr hf7 hr9
            have g1' := hbx9.k1
            have hbw9 : Below w.heap.size w w9 := hbw7.trans ((hr9.below hf7).mono hB)
            have hbd9 : Bnd S9 qt zs (k + 1) := by
              rcases hS9 with rfl | rfl
              · exact hbd'
              · exact hbd'.del _
            clear hS9
            go_wp2_with (first
              | (go_at_call 19; refine (Pages_any hf9 _ hnm).mono ?_; rintro e w10 ⟨rfl, rfl⟩; rw [hC9]))
            go_roundw
            case rel => exact ⟨k + 1, S9, by omega, by go_num, hf9, hbw9, hbd9⟩
            case measure => simp [intOf]; omega
          · go_roundw
            case rel => exact ⟨k + 1, S', by omega, by go_num, hf7, hbw7, hbd'⟩
            case measure => simp [intOf]; omega
        · have hz0 : ((zs.length : Int) == 0) = false := by simpa using hz
          go_wp2_with (first
            | (go_at_call 21; refine (Size_any hf7).mono ?_; rintro e w8 ⟨rfl, rfl⟩))
          · refine (Delete_one hf7 x.name hnm hcs').mono ?_
            rintro e w9 ⟨⟨er9, rfl⟩, S9, hf9, hr9, hC9, hS9⟩
            have hbx9 := hbx7.fr hf7 hr9
            have g1' := hbx9.k1
            have hbw9 : Below w.heap.size w w9 := hbw7.trans ((hr9.below hf7).mono hB)
            have hbd9 : Bnd S9 qt zs (k + 1) := by
              rcases hS9 with rfl | rfl
              · exact hbd'
              · exact hbd'.del _
            clear hS9
            go_wp2_with (first
              | (go_at_call 19; refine (Pages_any hf9 _ hnm).mono ?_; rintro e w10 ⟨rfl, rfl⟩; rw [hC9]))
            go_roundw
            case rel => exact ⟨k + 1, S9, by omega, by go_num, hf9, hbw9, hbd9⟩
            case measure => simp [intOf]; omega
          · go_roundw
            case rel => exact ⟨k + 1, S', by omega, by go_num, hf7, hbw7, hbd'⟩
            case measure => simp [intOf]; omega
    · have hcl := hbd.calls
      clear hbd hops hfr h2 b12
      go_wp2_with (go_at_call 22; refine (Names_form hf).mono ?_; rintro e w3 ⟨av, cap, rfl, hrow0, hb3⟩)
      have hf3 := hf.below hb3
      have hbw3 : Below w.heap.size w w3 := hbw.trans (hb3.mono hbw.size)
      obtain ⟨BN, hrow⟩ : ∃ BN, w3.ownsRow BN 9 1 (.slice av (nms S).length cap) (nms S).length ((nms S).map encStr) := ⟨_, hrow0⟩
      have hmem := nms_mem hf3
      have hnd := nms_nodup hf3
      have hkl : ∀ t ∈ nms S, t.length ≤ maxLen := fun t ht => strKeys_le hf3.map Try.underlying9 t ((List.mem_mergeSort).1 ht)
      have hL : (nms S).length ≤ 256 := by rw [nms_len S hf3]; exact hf3.few
      have hst : ∀ t, thr S t = true ↔ t ∈ (nms S).drop 0 := fun t => by rw [List.drop_zero]; exact (hmem t).symm
      clear hrow0 hb3 hf hbw hmem
      go_loopw [16] (fun i wx => ∃ (j : Nat) (S2 : St), j ≤ (nms S).length ∧ i = .int .i64 j ∧ FsAt wx B p mb fv S2 ∧ wx.ownsRow BN 9 1 (.slice av (nms S).length cap) (nms S).length ((nms S).map encStr) ∧ Below w.heap.size w wx ∧ S2.calls = S.calls ∧ ∀ t, thr S2 t = true ↔ t ∈ (nms S).drop j) (fun i _ => (nms S).length - (intOf i).toNat)
      case atStart => exact ⟨0, S, Nat.zero_le _, rfl, hf3, hrow, hbw3, rfl, hst⟩
      case round =>
        clear hf3 hrow hbw3 hst
        obtain ⟨j, S2, hj, rfl, hf4, hrow, hbw4, hc4, hth⟩ := hrel
        by_cases hjl : j < (nms S).length
        · obtain ⟨g, rfl⟩ : ∃ g, av = some ⟨g, 0, none⟩ := by
            rcases hrow.2 with ⟨_, h0⟩ | ⟨g, cap', cur, hv, _⟩
            · omega
            · exact ⟨g, by cases hv; rfl⟩
          have hcj : wr.cell? ⟨g, j, none⟩ = some (.string ⟨((nms S)[j]).toArray⟩) := by
            rw [hrow.cellAt j (by omega)]
            simp [hjl, encStr]
          have hdr : (nms S).drop j = (nms S)[j] :: (nms S).drop (j + 1) := List.drop_eq_getElem_cons hjl
          have htt : thr S2 (nms S)[j] = true := (hth _).2 (by rw [hdr]; exact List.mem_cons_self)
          have hkj := hkl _ (List.getElem_mem hjl)
          have hth' : ∀ t, thr (delSt S2 (nms S)[j]) t = true ↔ t ∈ (nms S).drop (j + 1) := fun t => by
            rw [thr_del, Bool.and_eq_true, hth t, hdr, decide_eq_true_eq, List.mem_cons]
            have hn2 : ((nms S)[j] :: (nms S).drop (j + 1)).Nodup := by rw [← hdr]; exact hnd.sublist (List.drop_sublist _ _)
            have hno := (List.nodup_cons.1 hn2).1
            constructor
            · rintro ⟨h1 | h1, h2⟩
              · exact absurd h1 h2
              · exact h1
            · intro h1
              exact ⟨.inr h1, fun e => hno (e ▸ h1)⟩
          have Hth : Hid (∀ t, thr (delSt S2 (nms S)[j]) t = true ↔ t ∈ (nms S).drop (j + 1)) := hth'
          clear hth hth' hdr hnd hkl
          generalize (nms S)[j] = tt at hcj htt hkj Hth
          go_wp2_with (go_at_call 16; refine (Delete_tt hf4 (by omega) hkj htt).mono ?_; rintro e w5 ⟨rfl, hf5, hr5⟩)
          go_roundw
          case rel => exact ⟨j + 1, delSt S2 tt, by omega, by go_num, hf5, hr5.row hf4 hrow (by decide) (by decide), hbw4.trans ((hr5.below hf4).mono hB), hc4, Hth.out⟩
          case measure => simp [intOf]; omega
        · have hno : ∀ t, thr S2 t = false := fun t => by
            cases ht : thr S2 t
            · rfl
            · have := (hth t).1 ht
              rw [List.drop_eq_nil_of_le (by omega)] at this
              cases this
          obtain ⟨hn0, hs0⟩ := nms_nil hf4 hno
          have hnl : (nms S2).length = 0 := by rw [hn0]; rfl
          clear hth hno hn0 hnd hkl
          go_wp2_with (first
            | (go_at_call 21; refine (Size_any hf4).mono ?_; rintro e w5 ⟨rfl, rfl⟩; rw [hs0])
            | (go_at_call 22; refine (Names_form hf4).mono ?_; rintro e w5 ⟨av5, cap5, rfl, hrow5, hb5⟩; rw [hnl]))
          go_ret
          exact ⟨rfl, hbw4.trans (hb5.mono hbw4.size)⟩
end Go.Proofs.Ytgkijokgkaihoaa
