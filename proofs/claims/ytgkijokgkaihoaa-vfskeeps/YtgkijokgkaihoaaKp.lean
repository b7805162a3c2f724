/-
  VfsKeeps: what is kept from call to call, as memory and lists alone.
-/
import Derived.Test.YtgkijokgkaihoaaApp2
import Derived.Test.YtgkijokgkaihoaaNms
import Derived.Test.YtgkijokgkaihoaaRd
namespace Go.Proofs.Ytgkijokgkaihoaa
open Go.RowKit Go.WideMaps Go.Maps Go.ChangeShapes Go.WideShapes

/-- The name of the file that the statement watches. -/
def ownN : List UInt8 := [111, 119, 110]

theorem bys_bound : ∀ (ps : List (Value × List UInt8)), (∀ q ∈ ps, q.2.length ≤ 1024) → bys ps ≤ 1024 * (ps.length : Int)
  | [], _ => by simp [bys]
  | q :: r, h => by
    have := bys_bound r (fun x hx => h x (by simp [hx]))
    have := h q (by simp)
    simp only [bys, List.length_cons]
    omega
theorem totE_le (C : List UInt8 → List (Value × List UInt8)) (h : ∀ s, bys (C s) ≤ 4194304) : ∀ es : List (Lit × DataW Value), totE C es ≤ 4194304 * (es.length : Int)
  | [] => by simp [totE]
  | e :: r => by
    have := totE_le C h r
    have h2 : atE C e.1 ≤ 4194304 := by
      unfold atE; split
      · exact h _
      · omega
    simp only [totE, List.length_cons]
    omega

section
variable {w w' : World} {base p mb : Nat} {fv : Value} {S S' : St}

theorem FsAt.size_le (h : FsAt w base p mb fv S) : S.size ≤ 1073741824 := by
  obtain ⟨es, hD, _⟩ := keys_of h
  have hf := h.few
  rw [hD] at hf
  have hc : ∀ s, bys (S.C s) ≤ 4194304 := fun s => by
    have h1 := bys_bound (S.C s) (fun q hq => ((h.pok s).2 q hq).2)
    have h2 := (h.pok s).1
    omega
  have := totE_le S.C hc es
  rw [h.tot, hD]
  show totE S.C es ≤ _
  have : Maps.size (DataW.map es) = es.length := rfl
  omega

theorem RowsIn.del (s : List UInt8) (w : World) : RowsIn S (delSt S s) w := fun t k hk => by
  by_cases ht : t = s
  · subst ht
    rw [show (delSt S t).D = S.D.del (.string t) from rfl, look_del_same] at hk
    simp [Value.ownBlock] at hk
  · rw [show (delSt S s).D = S.D.del (.string s) from rfl, look_del_other ht] at hk
    exact .inl ⟨t, hk⟩

/-- The file system stays what it is while a row that is none of its own grows. -/
theorem FsAt.grown (h : FsAt w base p mb fv S) {row : Option Nat} (hg : w.grownBy w' row) (hne : ∀ k, row = some k → ¬ Foot p mb fv S k) : FsAt w' base p mb fv S :=
  h.same fun k hk => hg.block k (h.lt hk).2 fun e => hne k e.symm hk

/-- What holds of the statement's file system and its list, from call to call. -/
structure Kp (w0 wr : World) (B p mb : Nat) (fv : Value) (S : St) (wv : Value) (ws : List (Value × List UInt8)) (zs : List Int) (m : Int) : Prop where
  fs : FsAt wr B p mb fv S
  row : wr.ownsRow w0.heap.size 29 1 wv ws.length (ws.map Prod.fst)
  el : ∀ q ∈ ws, ∃ a c, q.1 = .slice (some a) q.2.length c ∧ BytesAt w0 a q.2
  eq : (S.C ownN).map Prod.snd = ws.map Prod.snd
  apart : ∀ s k, wv.ownBlock = some k → (look S.D s).ownBlock ≠ some k
  quota : S.quota = 1099511627776
  fs0 : zs = [] → S.fs = []
  calls : S.calls ≤ m
  below : Below w0.heap.size w0 wr

variable {w0 wr : World} {B : Nat} {wv : Value} {ws : List (Value × List UInt8)} {zs : List Int} {m m' : Int}

theorem Kp.notFoot (h : Kp w0 wr B p mb fv S wv ws zs m) : ∀ k, wv.ownBlock = some k → ¬ Foot p mb fv S k := by
  intro k hk hF
  obtain ⟨cur, hc⟩ := row_blk h.row hk
  rcases hF with rfl | rfl | hF | ⟨s, hF⟩ | ⟨s, q, hq, hF⟩
  · rw [h.fs.blk] at hc; simp at hc
  · obtain ⟨es, clock, hm⟩ := map_blk h.fs.map; rw [hm] at hc; cases hc
  · obtain ⟨cur', hc'⟩ := row_blk h.fs.fal hF; rw [hc] at hc'; simp at hc'
  · exact h.apart s k hk hF
  · obtain ⟨cur', hc'⟩ := row_blk ((h.fs.pgs s).2 q hq) hF; rw [hc] at hc'; simp at hc'

/-- Behind a call of the file system. -/
theorem Kp.step (h : Kp w0 wr B p mb fv S wv ws zs m) (hB : w0.heap.size ≤ B) (hf : FsAt w' B p mb fv S') (hr : FsFr p mb S.D wr w') (hR : RowsIn S S' wr) (hC : (S'.C ownN).map Prod.snd = ws.map Prod.snd)
    (hq : S'.quota = S.quota) (hfs : S'.fs = S.fs) (hc : S'.calls ≤ m') : Kp w0 w' B p mb fv S' wv ws zs m' := by
  refine ⟨hf, ?_, h.el, hC, ?_, hq.trans h.quota, fun e => hfs.trans (h.fs0 e), hc, h.below.trans ((hr.below h.fs).mono hB)⟩
  · refine row_same h.row fun k hk => hr.block k (h.row.lt k hk).2 ?_ ?_ fun s => h.apart s k hk
    · intro e; exact h.notFoot k hk (.inl e)
    · intro e; exact h.notFoot k hk (.inr (.inl e))
  · intro s k hk e
    rcases hR s k e with ⟨s', h'⟩ | h'
    · exact h.apart s' k hk h'
    · have := (h.row.lt k hk).2; omega

theorem Kp.mono (h : Kp w0 wr B p mb fv S wv ws zs m) (hm : m ≤ m') : Kp w0 wr B p mb fv S wv ws zs m' :=
  { h with calls := by have := h.calls; omega }

/-- Behind an Append of another file. -/
theorem Kp.other (h : Kp w0 wr B p mb fv S wv ws zs m) (hB : w0.heap.size ≤ B) (hf : FsAt w' B p mb fv S') (hr : FsFr p mb S.D wr w') (hR : RowsIn S S' wr) {s pg : List UInt8} {er : Int} (ha : Apd S s pg er S') (hs : s ≠ ownN) : Kp w0 w' B p mb fv S' wv ws zs (m + 1) := by
  have hc := h.calls
  rcases ha with ⟨_, rfl⟩ | ⟨_, rfl⟩ | ⟨_, _, _, v, u, rfl⟩
  · exact h.step hB hf hr hR h.eq rfl rfl (by omega)
  · exact h.step hB hf hr hR h.eq rfl rfl (by simp only [cntSt]; omega)
  · refine h.step hB hf hr hR ?_ rfl rfl (by simp only [putSt, cntSt]; omega)
    simp only [putSt, if_neg (Ne.symm hs)]
    exact h.eq
/-- Behind an Append of the file itself that was refused. -/
theorem Kp.ownNo (h : Kp w0 wr B p mb fv S wv ws zs m) (hB : w0.heap.size ≤ B) (hf : FsAt w' B p mb fv S') (hr : FsFr p mb S.D wr w') (hR : RowsIn S S' wr) {s pg : List UInt8} {er : Int} (ha : Apd S s pg er S') (he : er ≠ 0) : Kp w0 w' B p mb fv S' wv ws zs (m + 1) := by
  have hc := h.calls
  rcases ha with ⟨_, rfl⟩ | ⟨_, rfl⟩ | ⟨e, _⟩
  · exact h.step hB hf hr hR h.eq rfl rfl (by omega)
  · exact h.step hB hf hr hR h.eq rfl rfl (by simp only [cntSt]; omega)
  · exact absurd e he
/-- Behind a Read. -/
theorem Kp.read (h : Kp w0 wr B p mb fv S wv ws zs m) (hB : w0.heap.size ≤ B) {q : Prop} [Decidable q] (hf : FsAt w' B p mb fv (if q then cntSt S else S)) (hr : FsFr p mb S.D wr w') : Kp w0 w' B p mb fv (if q then cntSt S else S) wv ws zs (m + 1) := by
  have hc := h.calls
  refine h.step hB hf hr ?_ ?_ ?_ ?_ ?_
  · split
    · exact RowsIn.of_eq _ rfl
    · exact RowsIn.of_eq _ rfl
  · split <;> exact h.eq
  · split <;> rfl
  · split <;> rfl
  · split
    · simp only [cntSt]; omega
    · omega
/-- Behind a Delete of another file. -/
theorem Kp.del (h : Kp w0 wr B p mb fv S wv ws zs m) (hB : w0.heap.size ≤ B) {q : Prop} [Decidable q] {s : List UInt8} (hf : FsAt w' B p mb fv (if q then delSt S s else S)) (hr : FsFr p mb S.D wr w') (hs : s ≠ ownN) : Kp w0 w' B p mb fv (if q then delSt S s else S) wv ws zs m := by
  have hc := h.calls
  refine h.step hB hf hr ?_ ?_ ?_ ?_ ?_
  · split
    · exact RowsIn.del _ _
    · exact RowsIn.of_eq _ rfl
  · split
    · simp only [delSt, if_neg (Ne.symm hs)]; exact h.eq
    · exact h.eq
  · split <;> rfl
  · split <;> rfl
  · split <;> exact hc

/-- A page was put in; it stands in the list, too. 'h' speaks of the world in which the list grows: all but the list's last page fits. -/
theorem Kp.grow {v' : Value} {pv : Value} {pg : List UInt8} (hf : FsAt wr B p mb fv S) (hrow : wr.ownsRow w0.heap.size 29 1 wv ws.length (ws.map Prod.fst))
    (hno : ∀ k, wv.ownBlock = some k → ¬ Foot p mb fv S k) (hel : ∀ q ∈ ws, ∃ a c, q.1 = .slice (some a) q.2.length c ∧ BytesAt w0 a q.2) (hC : (S.C ownN).map Prod.snd = ws.map Prod.snd ++ [pg])
    (hq : S.quota = 1099511627776) (hfs : zs = [] → S.fs = []) (hc : S.calls ≤ m) (hb : Below w0.heap.size w0 wr)
    (hpv : ∃ a c, pv = .slice (some a) pg.length c ∧ BytesAt w0 a pg)
    (hown' : w'.ownsRow w0.heap.size 29 1 v' (ws.length + 1) (ws.map Prod.fst ++ [pv])) (hg : wr.grownBy w' wv.ownBlock) (hloc : v'.ownBlock = wv.ownBlock ∨ v'.ownBlock = some wr.heap.size) :
    Kp w0 w' B p mb fv S v' (ws ++ [(pv, pg)]) zs m := by
  refine ⟨hf.grown hg hno, by simpa using hown', ?_, by simpa using hC, ?_, hq, hfs, hc, ?_⟩
  · intro q hq'
    rcases List.mem_append.1 hq' with h' | h'
    · exact hel q h'
    · simp only [List.mem_singleton] at h'
      subst h'
      exact hpv
  · intro s k hk e
    rcases hloc with h' | h'
    · exact hno k (h' ▸ hk) (.inr (.inr (.inr (.inl ⟨s, e⟩))))
    · rw [h'] at hk
      cases hk
      have := ((hf.pgs s).1.lt _ e).2
      omega
  · refine hb.grown hg hb.size fun k hk => (hrow.lt k hk).1
/-- Behind an Append of the file itself that went well: the list grows by the page. -/
theorem Kp.ownYes (h : Kp w0 wr B p mb fv S wv ws zs m) (hB : w0.heap.size ≤ B) (hf : FsAt w' B p mb fv S') (hr : FsFr p mb S.D wr w') (hR : RowsIn S S' wr) {pg : List UInt8} (ha : Apd S ownN pg 0 S') :
    1 ≤ pg.length ∧ Below w0.heap.size w0 w' ∧ w'.ownsRow w0.heap.size 29 1 wv ws.length (ws.map Prod.fst) ∧ ws.length ≤ 4096 ∧
      ∀ (w2 : World) (o : Obj) (v' pv : Value), (∃ a c, pv = .slice (some a) pg.length c ∧ BytesAt w0 a pg) → w2.ownsRow w0.heap.size 29 1 v' (ws.length + 1) (ws.map Prod.fst ++ [pv]) → (w'.alloc o).grownBy w2 wv.ownBlock →
        (v'.ownBlock = wv.ownBlock ∨ v'.ownBlock = some (w'.alloc o).heap.size) → Kp w0 w2 B p mb fv S' v' (ws ++ [(pv, pg)]) zs (m + 1) := by
  have hc := h.calls
  rcases ha with ⟨e, _⟩ | ⟨e, _⟩ | ⟨_, hp1, _, v, u, rfl⟩
  · omega
  · omega
  have hrow : w'.ownsRow w0.heap.size 29 1 wv ws.length (ws.map Prod.fst) := by
    refine row_same h.row fun k hk => hr.block k (h.row.lt k hk).2 ?_ ?_ fun s => h.apart s k hk
    · intro e; exact h.notFoot k hk (.inl e)
    · intro e; exact h.notFoot k hk (.inr (.inl e))
  have hb : Below w0.heap.size w0 w' := h.below.trans ((hr.below h.fs).mono hB)
  have hapart : ∀ s k, wv.ownBlock = some k → (look (putSt (cntSt S) ownN v (u, pg)).D s).ownBlock ≠ some k := fun s k hk e => by
    rcases hR s k e with ⟨s', h'⟩ | h'
    · exact h.apart s' k hk h'
    · have := (h.row.lt k hk).2; omega
  have hlen : ws.length ≤ 4096 := by
    have h1 := congrArg List.length h.eq
    have h2 := (h.fs.pok ownN).1
    simp at h1
    omega
  refine ⟨hp1, hb, hrow, hlen, fun w2 o v' pv hpv hown hg hloc => ?_⟩
  refine Kp.grow (wr := w'.alloc o) (wv := wv) (hf.alloc o) (hrow.alloc o) ?_ h.el ?_ h.quota h.fs0 (by simp only [putSt, cntSt]; omega) (hb.alloc hb.size o) hpv hown hg hloc
  · intro k hk hF
    obtain ⟨cur, hc⟩ := row_blk hrow hk
    rcases hF with rfl | rfl | hF | ⟨s, hF⟩ | ⟨s, q, hq, hF⟩
    · rw [hf.blk] at hc; simp at hc
    · obtain ⟨es, clock, hm⟩ := map_blk hf.map; rw [hm] at hc; cases hc
    · obtain ⟨cur', hc'⟩ := row_blk hf.fal hF; rw [hc] at hc'; simp at hc'
    · exact hapart s k hk hF
    · obtain ⟨cur', hc'⟩ := row_blk ((hf.pgs s).2 q hq) hF; rw [hc] at hc'; simp at hc'
  · simp only [putSt, if_true, List.map_append, List.map_cons, List.map_nil, cntSt]
    rw [h.eq]

theorem Kp.no14 (h : Kp w0 wr B p mb fv S wv ws zs m) (s : ByteArray) (n : Nat) : apErr S s n ≠ 14 := by
  have h1 := h.fs.size_le
  have h2 := h.quota
  unfold apErr
  split
  · split
    · split
      · decide
      · split
        · split
          · omega
          · decide
        · decide
    · decide
  · decide
theorem Kp.no13 (h : Kp w0 wr B p mb fv S wv ws zs m) (hz : zs = []) (s : ByteArray) (n : Nat) : apErr S s n ≠ 13 := by
  have h1 : hit S.fs (S.calls + 1) = false := by rw [h.fs0 hz]; rfl
  unfold apErr
  rw [h1]
  split
  · split
    · split
      · simp at *
      · split
        · split <;> decide
        · decide
    · decide
  · decide

/-- Behind new memory. -/
theorem Kp.alloc (h : Kp w0 wr B p mb fv S wv ws zs m) (o : Obj) : Kp w0 (wr.alloc o) B p mb fv S wv ws zs m :=
  { h with fs := h.fs.alloc o, row := h.row.alloc o, below := h.below.alloc h.below.size o }
theorem Kp.drew (h : Kp w0 wr B p mb fv S wv ws zs m) : Kp w0 wr.drew B p mb fv S wv ws zs m :=
  { h with fs := h.fs.kept fun _ _ => rfl, row := row_same h.row fun _ _ => rfl, below := h.below.drew }
theorem Kp.drewN (h : Kp w0 wr B p mb fv S wv ws zs m) (n : Nat) : Kp w0 (wr.drewN n) B p mb fv S wv ws zs m :=
  { h with fs := h.fs.drewN n, row := row_same h.row fun _ _ => rfl, below := ⟨h.below.os, h.below.tape, h.below.output, h.below.size, h.below.block⟩ }

end

/-- A page that was handed in. -/
structure PgV where
  av : Option Addr
  n : Nat
  c : Nat
  pg : List UInt8

/-- Pages that were handed in. -/
def PgsAt (w : World) (a : Option Addr) (n : Nat) (D : Nat → PgV) : Prop :=
  n = 0 ∨ ∃ b off, a = some ⟨b, off, none⟩ ∧ ∀ i, i < n → w.cell? ⟨b, off + i, none⟩ = some (.slice (D i).av (D i).n (D i).c) ∧ (D i).pg.length = (D i).n ∧ PageIn w (D i).av (D i).pg

theorem open_pages {H : Type} {enc : TypeId × Value → H} {w : World} {spare : Nat → Bool} {held : Bool} {fuel : Nat} {a : Option Addr} {len cap : Nat} {x : DataW H × List MemPlace} (hs : ∀ k, spare k = true) (h : DataW.trod enc Try.prog w 0 spare held fuel 40 [.slice a len cap] = some x) :
    ∃ D, PgsAt w a len D ∧ (x.1 = .nil ∧ len = 0 ∨ ∃ el sp, x.1 = .slice el sp ∧ el.length = len) := by
  rcases Deep.open_slice1 Try.underlying40 cells29 h with ⟨hcs, hx⟩ | ⟨a', l, c, m, n, V, D, Pl, hcs, _, hl, hm, hmm, hx, hall⟩
  · simp at hcs
    obtain ⟨rfl, rfl, rfl⟩ := hcs
    exact ⟨fun _ => ⟨none, 0, 0, []⟩, .inl rfl, .inl ⟨by rw [hx], rfl⟩⟩
  · simp at hcs
    obtain ⟨rfl, rfl, rfl⟩ := hcs
    rw [hs] at hmm
    simp only [if_true] at hmm
    have hd : x.1 = .nil ∧ len = 0 ∨ ∃ el sp, x.1 = .slice el sp ∧ el.length = len := .inr ⟨_, _, by rw [hx], by simp⟩
    by_cases h0 : len = 0
    · exact ⟨fun _ => ⟨none, 0, 0, []⟩, .inl h0, hd⟩
    · have h00 := (hall 0 (by omega)).1
      obtain ⟨b, off, spot⟩ := a'
      have hspot : spot = none := by simpa [Addr.add] using World.cell?_spot h00
      subst hspot
      have one : ∀ i, i < len → ∃ v : PgV, w.cell? ⟨b, off + i, none⟩ = some (.slice v.av v.n v.c) ∧ v.pg.length = v.n ∧ PageIn w v.av v.pg := fun i hi => by
        obtain ⟨h1, h2⟩ := hall i (by omega)
        obtain ⟨av, n', c', pg, e, h3, h4⟩ := open_page hs h2
        rw [add_plain] at h1
        simp only [List.cons.injEq, and_true] at e
        exact ⟨⟨av, n', c', pg⟩, by rw [h1, e], h3, h4⟩
      refine ⟨fun i => if hi : i < len then Classical.choose (one i hi) else ⟨none, 0, 0, []⟩, .inr ⟨b, off, rfl, fun i hi => ?_⟩, hd⟩
      simp only [hi, dif_pos]
      exact Classical.choose_spec (one i hi)
end Go.Proofs.Ytgkijokgkaihoaa
