/-
  Putting a page behind a file's others: the contract of Append.
-/
import Derived.Test.YtgkijokgkaihoaaPut
import Derived.Test.YtgkijokgkaihoaaNm
import Derived.Deep.AppendLies
import Derived.Deep.DrawnRows
namespace Go.Proofs.Ytgkijokgkaihoaa
open Go.RowKit Go.WideMaps Go.Maps
section
variable {w : World} {base p mb : Nat} {fv : Value} {S : St}

theorem FsFr.refl (p mb : Nat) (D : DataW Value) (w : World) : FsFr p mb D w w := ⟨rfl, rfl, rfl, Nat.le_refl _, fun _ _ _ _ _ => rfl⟩
theorem FsFr.of_below {D : DataW Value} {w' : World} (h : Below w.heap.size w w') : FsFr p mb D w w' := ⟨h.os, h.tape, h.output, h.size, fun k hk _ _ _ => h.block k hk⟩
theorem FsFr.of_only {D : DataW Value} {w' : World} (h : OnlyP p w w') : FsFr p mb D w w' := ⟨h.os, h.tape, h.output, by rw [h.size]; exact Nat.le_refl _, fun k _ hp _ _ => h.block k hp⟩
theorem FsFr.trans {D : DataW Value} {a b c : World} (h : FsFr p mb D a b) (k : FsFr p mb D b c) : FsFr p mb D a c :=
  ⟨k.os.trans h.os, k.tape.trans h.tape, k.output.trans h.output, Nat.le_trans h.size k.size, fun i hi h1 h2 h3 => (k.block i (Nat.lt_of_lt_of_le hi h.size) h1 h2 h3).trans (h.block i hi h1 h2 h3)⟩
/-- Below the file system's own blocks nothing has turned. -/
theorem FsFr.below {w' : World} (h : FsFr p mb S.D w w') (hf : FsAt w base p mb fv S) : Below base w w' :=
  ⟨h.os, h.tape, h.output, h.size, fun k hk => h.block k (by have := (hf.lt (.inl rfl : Foot p mb fv S p)).2; have := hf.bp; omega) (by have := hf.bp; omega) (by have := hf.bm; omega) (fun s hs => by have := ((hf.pgs s).1.lt k hs).1; omega)⟩

/-- A call is counted. -/
def cntSt (S : St) : St := { S with size := S.size, calls := S.calls + 1, failed := S.failed || hit S.fs (S.calls + 1) }

theorem Append_name (_h : FsAt w base p mb fv S) (s : ByteArray) (pv : Value) (hn : nmB s = false) :
    Calls Try.prog 12 #[.pointer (some ⟨p, 0, none⟩), .string s, pv] w fun e w' => e = .returned (.int .i64 11) ∧ Below w.heap.size w w' := by
  go_enter Try.func12, Try.ntmps12
  go_wp2_with (go_at_call 27; refine (isName_any _ _).mono ?_; rintro e w1 ⟨rfl, hb⟩; rw [hn])
  go_ret
  exact ⟨rfl, hb⟩

theorem Append_long (_h : FsAt w base p mb fv S) (s : ByteArray) (av : Option Addr) (n c : Nat) (hn : nmB s = true) (hl : n < 1 ∨ 1024 < n) :
    Calls Try.prog 12 #[.pointer (some ⟨p, 0, none⟩), .string s, .slice av n c] w fun e w' => e = .returned (.int .i64 12) ∧ Below w.heap.size w w' := by
  rcases hl with hl | hl
  · have b1 : decide ((n : Int) < 1) = true := by simp; omega
    go_enter Try.func12, Try.ntmps12
    go_wp2_with (go_at_call 27; refine (isName_any _ _).mono ?_; rintro e w1 ⟨rfl, hb⟩; rw [hn])
    go_ret
    exact ⟨rfl, hb⟩
  · have b1 : decide ((n : Int) < 1) = false := by simp; omega
    have b2 : decide (1024 < (n : Int)) = true := by simp; omega
    go_enter Try.func12, Try.ntmps12
    go_wp2_with (go_at_call 27; refine (isName_any _ _).mono ?_; rintro e w1 ⟨rfl, hb⟩; rw [hn])
    go_ret
    exact ⟨rfl, hb⟩

set_option maxRecDepth 100000 in
theorem Append_io (h : FsAt w base p mb fv S) (s : ByteArray) (av : Option Addr) (n c : Nat) (hn : nmB s = true) (h1 : 1 ≤ n) (h2 : n ≤ 1024) (hc : S.calls < 4611686018427387904) (hh : hit S.fs (S.calls + 1) = true) :
    Calls Try.prog 12 #[.pointer (some ⟨p, 0, none⟩), .string s, .slice av n c] w fun e w' => e = .returned (.int .i64 13) ∧ FsAt w' base p mb fv (cntSt S) ∧ FsFr p mb S.D w w' := by
  have b1 : decide ((n : Int) < 1) = false := by simp; omega
  have b2 : decide (1024 < (n : Int)) = false := by simp; omega
  go_enter Try.func12, Try.ntmps12
  go_wp2_with (first
    | (go_at_call 27; refine (isName_any _ _).mono ?_; rintro e w1 ⟨rfl, hb⟩; rw [hn])
    | (go_at_call 28; refine (countFails_any (h.below hb) hc).mono ?_; rintro e w2 ⟨rfl, hf2, ho2⟩; rw [hh]))
  go_ret
  exact ⟨rfl, hf2, (FsFr.of_below hb).trans (FsFr.of_only ho2)⟩

set_option maxRecDepth 100000 in
theorem Append_many (h : FsAt w base p mb fv S) (s : ByteArray) (hs : s.size ≤ maxLen) (av : Option Addr) (n c : Nat) (hn : nmB s = true) (h1 : 1 ≤ n) (h2 : n ≤ 1024) (hc : S.calls < 4611686018427387904) (hh : hit S.fs (S.calls + 1) = false)
    (hg : grw S s.data.toList = false) :
    Calls Try.prog 12 #[.pointer (some ⟨p, 0, none⟩), .string s, .slice av n c] w fun e w' => e = .returned (.int .i64 2) ∧ FsAt w' base p mb fv (cntSt S) ∧ FsFr p mb S.D w w' := by
  have b1 : decide ((n : Int) < 1) = false := by simp; omega
  have b2 : decide (1024 < (n : Int)) = false := by simp; omega
  have hg' : grw (cntSt S) s.data.toList = false := hg
  go_enter Try.func12, Try.ntmps12
  go_wp2_with (first
    | (go_at_call 27; refine (isName_any _ _).mono ?_; rintro e w1 ⟨rfl, hb⟩; rw [hn])
    | (go_at_call 28; refine (countFails_any (h.below hb) hc).mono ?_; rintro e w2 ⟨rfl, hf2, ho2⟩; rw [hh])
    | (go_at_call 29; refine (mayGrow_any (S := cntSt S) hf2 _ hs).mono ?_; rintro e w3 ⟨rfl, rfl⟩; rw [hg']))
  go_ret
  exact ⟨rfl, hf2, (FsFr.of_below hb).trans (FsFr.of_only ho2)⟩

theorem FsAt.drewN (h : FsAt w base p mb fv S) (n : Nat) : FsAt (w.drewN n) base p mb fv S := h.kept fun _ _ => rfl
theorem FsFr.drewN {D : DataW Value} {w' : World} (h : FsFr p mb D w w') (n : Nat) : FsFr p mb D w (w'.drewN n) := ⟨h.os, h.tape, h.output, h.size, h.block⟩

set_option maxRecDepth 100000 in
theorem Append_quota (h : FsAt w base p mb fv S) (s : ByteArray) (hs : s.size ≤ maxLen) (av : Option Addr) (n c : Nat) (hn : nmB s = true) (h1 : 1 ≤ n) (h2 : n ≤ 1024) (hc : S.calls < 1125899906842624) (hh : hit S.fs (S.calls + 1) = false)
    (hg : grw S s.data.toList = true) (hq : S.quota < S.size + n) :
    Calls Try.prog 12 #[.pointer (some ⟨p, 0, none⟩), .string s, .slice av n c] w fun e w' => e = .returned (.int .i64 14) ∧ FsAt w' base p mb fv (cntSt S) ∧ FsFr p mb S.D w w' := by
  have b1 : decide ((n : Int) < 1) = false := by simp; omega
  have b2 : decide (1024 < (n : Int)) = false := by simp; omega
  have hg' : grw (cntSt S) s.data.toList = true := hg
  have s0 := h.size_nonneg
  have s1 := h.s1
  go_enter Try.func12, Try.ntmps12
  go_wp2_with (first
    | (go_at_call 27; refine (isName_any _ _).mono ?_; rintro e w1 ⟨rfl, hb⟩; rw [hn])
    | (go_at_call 28; refine (countFails_any (h.below hb) (by omega)).mono ?_; rintro e w2 ⟨rfl, hf2, ho2⟩; rw [hh])
    | (go_at_call 29; refine (mayGrow_any (S := cntSt S) hf2 _ hs).mono ?_; rintro e w3 ⟨rfl, rfl⟩; rw [hg']; have k1 : w3.cell? ⟨p, 1, none⟩ = some (.int .i64 S.quota) := hf2.cell 1; have k2 : w3.cell? ⟨p, 2, none⟩ = some (.int .i64 S.size) := hf2.cell 2))
  go_quiet (fail)
  go_wp2_with fail
  go_ret
  exact ⟨rfl, hf2.drewN nq, ((FsFr.of_below hb).trans (FsFr.of_only ho2)).drewN nq⟩

theorem FsAt.not_byte (h : FsAt w base p mb fv S) {x : Addr} {z : Int} (hx : w.cell? x = some (.int .u8 z)) : x.block ≠ p := by
  intro e
  obtain ⟨b, off, sp⟩ := x
  obtain rfl : b = p := e
  simp only [World.cell?, h.blk] at hx
  split at hx
  · cases hx
  · have hfv : fv ≠ .int .u8 z := by
      rcases h.fal.2 with ⟨hv, _⟩ | ⟨g, cap, cur, hv, _⟩ <;> rw [hv] <;> simp
    match off, hx with
    | 0, hx => simp [cellsOf] at hx
    | 1, hx => simp [cellsOf] at hx
    | 2, hx => simp [cellsOf] at hx
    | 3, hx => simp [cellsOf] at hx
    | 4, hx => simp [cellsOf] at hx; exact hfv hx
    | 5, hx => simp [cellsOf] at hx
    | k + 6, hx => simp [cellsOf] at hx

theorem lookup_map {D : DataW Value} {n : Nat} (h : w.ownsMap Try.prog 9 heldR mb n D) (s : ByteArray) (hs : s.size ≤ maxLen) :
    (Instr.lookup 52 (.map (some mb)) (.string s) false).run Try.prog w = .ok (look D s.data.toList) w := by
  obtain ⟨v, ps, hr, hv⟩ := h.lookup law9 Try.underlying52 (zero40 w) (zd := .held (.slice none 0 0)) (zp := []) rfl (keyOf_string_mk Try.underlying9 hs)
  rw [hr, look_of hv]

/-- A page's bytes, as they lie at an address. -/
def BytesAt (w : World) (a : Addr) (pg : List UInt8) : Prop := ∀ i, i < pg.length → w.cell? (a.add i) = some (.int .u8 ((pg.map fun b : UInt8 => (b.toNat : Int)).getD i 0))

theorem clone_any (a : Addr) (n c : Nat) (pg : List UInt8) (w : World) (hpl : pg.length = n) (hn : n ≤ 140737488355328) (hpc : BytesAt w a pg) :
    Calls Try.prog 30 #[.slice (some a) n c] w fun e w' => ∃ g cap, e = .returned (.slice (some ⟨g, 0, none⟩) n cap) ∧ w'.ownsRow w.heap.size 5 1 (.slice (some ⟨g, 0, none⟩) n cap) n (pg.map byV) ∧ Below w.heap.size w w' := by
  subst hpl
  refine (Try.bytes_Clone_at a pg.length c (pg.map fun b : UInt8 => (b.toNat : Int)) w (by simp) hn hpc).mono ?_
  rintro e w' ⟨v', rfl, hrow, hnn, hbl⟩
  have hm : (pg.map fun b : UInt8 => (b.toNat : Int)).map (Value.int .u8) = pg.map byV := by simp [byV, Function.comp_def]
  rw [hm] at hrow
  rcases hrow.2 with ⟨hv, _⟩ | ⟨g, cap, cur, rfl, _⟩
  · exact absurd hv hnn
  · exact ⟨g, cap, rfl, hrow, hbl⟩

theorem info29 : (Try.prog.info? 29).map (fun i => (i.zero, i.size, i.bytes)) = some (some (.slice none 0 0), 1, 24) := by kernel_rfl

set_option maxRecDepth 100000 in
theorem Append_okR (h : FsAt w base p mb fv S) (s : ByteArray) (hs : s.size ≤ maxLen) (a : Addr) (n c : Nat) (pg : List UInt8) (hpl : pg.length = n) (hpc : BytesAt w a pg)
    (hn : nmB s = true) (h1 : 1 ≤ n) (h2 : n ≤ 1024) (hc : S.calls < 1125899906842624) (hh : hit S.fs (S.calls + 1) = false)
    (hg : grw S s.data.toList = true) (hq : S.size + n ≤ S.quota) :
    Calls Try.prog 12 #[.pointer (some ⟨p, 0, none⟩), .string s, .slice (some a) n c] w fun e w' => e = .returned (.int .i64 0) ∧ (∃ v' u, FsAt w' base p mb fv (putSt (cntSt S) s.data.toList v' (u, pg)) ∧ ∀ k, v'.ownBlock = some k → (look S.D s.data.toList).ownBlock = some k ∨ w.heap.size ≤ k) ∧ FsFr p mb S.D w w' := by
  have b1 : decide ((n : Int) < 1) = false := by simp; omega
  have b2 : decide (1024 < (n : Int)) = false := by simp; omega
  have hg' : grw (cntSt S) s.data.toList = true := hg
  have s0 := h.size_nonneg
  have s1 := h.s1
  go_enter Try.func12, Try.ntmps12
  go_wp2_with (first
    | (go_at_call 27; refine (isName_any _ _).mono ?_; rintro e w1 ⟨rfl, hb⟩; rw [hn])
    | (go_at_call 28; refine (countFails_any (h.below hb) (by omega)).mono ?_; rintro e w2 ⟨rfl, hf2, ho2⟩; rw [hh])
    | (go_at_call 29; refine (mayGrow_any (S := cntSt S) hf2 _ hs).mono ?_; rintro e w3 ⟨rfl, rfl⟩; rw [hg']; have k1 : w3.cell? ⟨p, 1, none⟩ = some (.int .i64 S.quota) := hf2.cell 1; have k2 : w3.cell? ⟨p, 2, none⟩ = some (.int .i64 S.size) := hf2.cell 2))
  go_quiet (fail)
  go_wp2_with fail
  have hfW : FsAt (w3.drewN nq) base p mb fv (cntSt S) := hf2.drewN nq
  have hfr : FsFr p mb S.D w (w3.drewN nq) := ((FsFr.of_below hb).trans (FsFr.of_only ho2)).drewN nq
  have hpcW : BytesAt (w3.drewN nq) a pg := fun i hi => by
    have hx := hpc i hi
    have hlt := World.block_lt_of_cell? w _ hx
    have hx1 : w1.cell? (a.add i) = some (.int .u8 ((pg.map fun b : UInt8 => (b.toNat : Int)).getD i 0)) := (hb.cell hlt).trans hx
    exact (World.cell?_of_block (w := w1) (w' := w3) (ho2.block _ (h.not_byte hx))).trans hx1
  clear hf2 ho2 k1 k2 hpc hb
  generalize w3.drewN nq = W at hfW hfr hpcW ⊢
  clear w1 w3
  have k0 : W.cell? ⟨p, 0, none⟩ = some (.map (some mb)) := hfW.cell 0
  have hl : (Instr.lookup 52 (.map (some mb)) (.string s) false).run Try.prog W = .ok (look S.D s.data.toList) W := hfW.lookup s hs
  have hrow : W.ownsRow base 29 1 (look S.D s.data.toList) (S.C s.data.toList).length ((S.C s.data.toList).map Prod.fst) := (hfW.pgs _).1
  have hbW : base ≤ W.heap.size := by have := (hfW.lt (.inl rfl : Foot p mb fv (cntSt S) p)); omega
  have hlenC : (S.C s.data.toList).length ≤ 4096 := (hfW.pok _).1
  obtain ⟨i0, hi0, hz0, hz1, hz2⟩ := info_parts info29
  have hpl' : p < W.heap.size := (hfW.lt (.inl rfl : Foot p mb fv (cntSt S) p)).2
  have hml' : mb < W.heap.size := (hfW.lt (.inr (.inl rfl) : Foot p mb fv (cntSt S) mb)).2
  have KS : Hid (∀ w' : World, w'.heap[p]? = W.heap[p]? → w'.cell? ⟨p, 0, none⟩ = some (.map (some mb))) := fun w' e1 => (World.cell?_of_block (w := W) e1).trans k0
  have hl0 : (Instr.lookup 52 (.map (some mb)) (.string s) false).run Try.prog W.drew = .ok (look S.D s.data.toList) W.drew := lookup_map (w := W.drew) (map_same (w' := W.drew) hfW.map rfl) s hs
  clear hl
  have hnemb : mb ≠ p := hfW.p_ne_mb
  have hmbr : (look S.D s.data.toList).ownBlock ≠ some mb := hfW.mb_ne_row _
  have hpr : (look S.D s.data.toList).ownBlock ≠ some p := hfW.p_ne_row _
  have hMB : Hid (∀ {w' w2 : World} {o : Obj}, Below W.drew.heap.size W.drew w' → (w'.alloc o).grownBy w2 (look S.D s.data.toList).ownBlock → w2.heap[mb]? = W.heap[mb]?) := fun {w' w2 o} hbl hgr =>
    (hgr.block mb (by have := hbl.size; simp; exact Nat.lt_succ_of_lt (Nat.lt_of_lt_of_le hml' this)) (fun e => hmbr e.symm)).trans ((Below.heap_alloc _ _ mb (Nat.lt_of_lt_of_le hml' hbl.size)).trans (hbl.block mb hml'))
  have hPB : Hid (∀ {w' w2 : World} {o : Obj}, Below W.drew.heap.size W.drew w' → (w'.alloc o).grownBy w2 (look S.D s.data.toList).ownBlock → w2.heap[p]? = W.heap[p]?) := fun {w' w2 o} hbl hgr =>
    (hgr.block p (by have := hbl.size; simp; exact Nat.lt_succ_of_lt (Nat.lt_of_lt_of_le hpl' this)) (fun e => hpr e.symm)).trans ((Below.heap_alloc _ _ p (Nat.lt_of_lt_of_le hpl' hbl.size)).trans (hbl.block p hpl'))
  go_region_held3 (fun w' => w'.cell? ⟨p, 0, none⟩ = some (.map (some mb)))
    (first | exact KS.out _ rfl | exact KS.out _ (hbl.block p hpl') | exact KS.out _ ((Below.heap_alloc _ _ p (Nat.lt_of_lt_of_le hpl' hbl.size)).trans (hbl.block p hpl')) | exact KS.out _ (hPB.out hbl hgrow) | exact KS.out _ ((hg3.block p (Nat.lt_of_lt_of_le (Nat.lt_of_lt_of_le hpl' hbl.size) (Nat.le_trans (by simp) hgrow.size)) (by simpa using Ne.symm hnemb)).trans (hPB.out hbl hgrow)))
    (first
      | (go_at_call 30; refine (clone_any a n c pg _ hpl (by omega) (by exact hpcW)).mono ?_; rintro e w' ⟨gp, cp, rfl, hrow', hbl⟩; have hl1 := lookup_map (map_same hfW.map (hbl.block mb hml')) s hs; have hl2 := fun o => lookup_map (map_same (w' := World.alloc _ o) hfW.map ((Below.heap_alloc _ _ mb (Nat.lt_of_lt_of_le hml' hbl.size)).trans (hbl.block mb hml'))) s hs; simp only [cntSt] at hl1 hl2)
      | (refine step_append_lies _ (by rfl) _ _ _ (by rfl) base 29 i0 _ 1 24 Try.underlying40 hi0 hz0 hz1 hz2 rfl (by omega) (look S.D s.data.toList) (S.C s.data.toList).length ((S.C s.data.toList).map Prod.fst) (by rfl)
          ((row_same hrow (fun k hk => hbl.block k (hrow.lt k hk).2)).alloc _) ⟨w'.heap.size, 0, none⟩ 1 1 [.slice (some ⟨gp, 0, none⟩) n cp] (by rfl) (by rfl) (cell_one_new _ _ _) (by simp [Value.oneCell'])
          (by omega) (by unfold maxLen; omega) (by omega) (by have h0 : W.heap.size ≤ w'.heap.size := hbl.size; simp; omega) (w'.heap.size + 1) (by simp) ?_; intro g cap w2 hown2 hgrow hat hlt; obtain ⟨w3, hup, hm3, hg3⟩ := (map_same hfW.map (hMB.out hbl hgrow)).update law9 Try.underlying52 (Nat.lt_of_le_of_lt hfW.few (by decide)) (keyOf_string_mk Try.underlying9 hs) (val := .slice (some ⟨g, 0, none⟩) ((S.C s.data.toList).length + 1) cap) (d := .held (.slice (some ⟨g, 0, none⟩) ((S.C s.data.toList).length + 1) cap)) (ps := []) rfl))
  all_goals
    have hblW : Below W.heap.size W w' := ⟨hbl.os, hbl.tape, hbl.output, hbl.size, hbl.block⟩
    obtain ⟨e3, hf3, hr3⟩ := put_step (S := cntSt S) hfW hblW hpl hrow' hown2 hgrow hat hm3 hg3 h1 h2 hg' (by show S.size + (n : Int) ≤ 1024 * (S.calls + 1); omega)
    have k2 : w3.cell? ⟨p, 2, none⟩ = some (.int .i64 S.size) := (World.cell?_of_block (w := W) e3).trans (hfW.cell 2)
    have f2 : w3.frozen? ⟨p, 2, none⟩ = false := (World.frozen?_of_block (w := W) e3).trans (hfW.free 2)
    have hnew : ∀ k, (Value.slice (some ⟨g, 0, none⟩) ((S.C s.data.toList).length + 1) cap).ownBlock = some k → (look S.D s.data.toList).ownBlock = some k ∨ w.heap.size ≤ k := fun k hk => by
      have hgk : g = k := by simpa [Value.ownBlock] using hk
      subst hgk
      rcases hat with h' | h'
      · exact .inl h'
      · right
        have := hblW.size
        have := hfr.size
        omega
    have Hnew : Hid (∀ k, (Value.slice (some ⟨g, 0, none⟩) ((S.C s.data.toList).length + 1) cap).ownBlock = some k → (look S.D s.data.toList).ownBlock = some k ∨ w.heap.size ≤ k) := hnew
    clear hnew
    clear hup hl0 hl1 hl2 hMB hPB KS k0 hrow hrow' hbl hown2 hgrow hat hm3 hg3 hpcW
    go_wp2
    go_ret
    exact ⟨rfl, ⟨_, _, hf3, Hnew.out⟩, hfr.trans hr3⟩

theorem Append_ok (h : FsAt w base p mb fv S) (s : ByteArray) (hs : s.size ≤ maxLen) (a : Addr) (n c : Nat) (pg : List UInt8) (hpl : pg.length = n) (hpc : BytesAt w a pg)
    (hn : nmB s = true) (h1 : 1 ≤ n) (h2 : n ≤ 1024) (hc : S.calls < 1125899906842624) (hh : hit S.fs (S.calls + 1) = false)
    (hg : grw S s.data.toList = true) (hq : S.size + n ≤ S.quota) :
    Calls Try.prog 12 #[.pointer (some ⟨p, 0, none⟩), .string s, .slice (some a) n c] w fun e w' => e = .returned (.int .i64 0) ∧ (∃ v' u, FsAt w' base p mb fv (putSt (cntSt S) s.data.toList v' (u, pg))) ∧ FsFr p mb S.D w w' :=
  (Append_okR h s hs a n c pg hpl hpc hn h1 h2 hc hh hg hq).mono fun _ _ ⟨he, ⟨v, u, hf, _⟩, hr⟩ => ⟨he, ⟨v, u, hf⟩, hr⟩
end
end Go.Proofs.Ytgkijokgkaihoaa
