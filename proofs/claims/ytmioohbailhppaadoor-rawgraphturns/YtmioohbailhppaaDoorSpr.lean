/-
  A record's properties, those that are not null, as they are declared: sortProps.
-/
import Derived.Test.YtmioohbailhppaaDoorCpt
namespace Go.Proofs.YtmioohbailhppaaDoor
open Go.RowKit
set_option linter.unusedSimpArgs false
set_option linter.unusedVariables false

theorem pv_clo (x : PV) (s : ByteArray) (g : Nat) (w : World) (hg : w.cell? ⟨g, 0, none⟩ = some (.string s)) :
    Calls Tryd.prog 67 #[.agg #[.string x.n, .int .i64 x.v.k, .bool x.v.b, .int .i64 x.v.n, .string x.v.s, .slice x.v.p x.v.l x.v.c], .pointer (some ⟨g, 0, none⟩)] w fun e w' => e = .returned (.bool (decide (x.n = s))) ∧ Below w.heap.size w w' := by
  have hg2 := cell_keep (.cells #[.string x.n, .int .i64 x.v.k, .bool x.v.b, .int .i64 x.v.n, .string x.v.s, .slice x.v.p x.v.l x.v.c] 102) hg
  rw [← size_ne]
  go_enter Tryd.func67, Tryd.ntmps67
  go_wp2_with fail
  go_returns
  exact ⟨by simp, by go_grown⟩

set_option maxRecDepth 100000 in
theorem pv_index (a : Option Addr) (n c : Nat) (L : List PV) (s : ByteArray) (g : Nat) (w : World) (hn : L.length = n) (hm : n ≤ maxLen) (hL : PVsAt w a L) (hg : w.cell? ⟨g, 0, none⟩ = some (.string s)) :
    Calls Tryd.prog 66 #[.slice a n c, .func (.func 67) #[] #[.pointer (some ⟨g, 0, none⟩)]] w fun e w' => e = .returned (.int .i64 (firstAt (fun x => decide (x.n = s)) L)) ∧ Below w.heap.size w w' := by
  unfold maxLen at hm
  go_enter Tryd.func66, Tryd.ntmps66
  go_wp2_with fail
  go_loopw [8] (fun i wr => Below w.heap.size w wr ∧ ∃ j : Nat, j ≤ n ∧ i = .int .i64 j ∧ ∀ k, k < j → decide ((L.getD k default).n = s) = false) (fun i _ => n - (intOf i).toNat)
  case atStart => exact ⟨Below.refl _ _, 0, by omega, rfl, by simp⟩
  case round =>
    obtain ⟨hb, j, j1, rfl, hz⟩ := hrel
    have hLr := hL.below hb
    have hgr := (hb.cell (World.block_lt_of_cell? w _ hg)).trans hg
    by_cases hj : j < n
    · rcases hLr with rfl | ⟨x, o, rfl, hx⟩
      · simp at hn; omega
      have hxj := hx j (by omega)
      have hS := firstAt_some (fun x : PV => decide (x.n = s)) L j (by omega) hz
      obtain ⟨X, hX⟩ : ∃ X, L.getD j default = X := ⟨_, rfl⟩
      rw [hX] at hxj hS
      replace hX : Hid _ := hX
      obtain ⟨k0, k1, k2, k3, k4, k5, _, _, _, _⟩ := hxj
      have hc := fun w hg => pv_clo X s g w hg
      cases he : decide (X.n = s)
      · clear hS
        rw [he] at hc
        replace he : Hid _ := he
        replace hz : Hid _ := hz
        replace hc : Hid _ := hc
        go_wp2_with (go_at_call 67; refine (hc.out _ hgr).mono ?_; rintro e w1 ⟨rfl, hb1⟩)
        exact ⟨⟨below_on hb hb1, j + 1, by omega, rfl, fun k hk => by rcases Nat.lt_succ_iff_lt_or_eq.1 hk with h | rfl; exact hz.out k h; rw [hX.out]; exact he.out⟩, by show n - ((j : Int) + 1).toNat < n - (j : Int).toNat; omega⟩
      · have hf := hS he
        clear hS
        rw [he] at hc
        replace he : Hid _ := he
        replace hz : Hid _ := hz
        replace hc : Hid _ := hc
        replace hf : Hid _ := hf
        go_wp2_with (go_at_call 67; refine (hc.out _ hgr).mono ?_; rintro e w1 ⟨rfl, hb1⟩)
        go_returns
        exact ⟨by rw [hf.out]; simp, below_on hb hb1⟩
    · have hf := firstAt_none (fun x : PV => decide (x.n = s)) L fun i hi => hz i (by omega)
      replace hf : Hid _ := hf
      replace hz : Hid _ := hz
      go_wp2_with fail
      go_returns
      exact ⟨by rw [hf.out]; simp, hb⟩

/-- A property without a path. -/
def bareV (x : PV) : PV := { x with v := { x.v with p := none, l := 0, c := 0, z := [] } }
/-- The property of a name, if it is there and not null. -/
def pickV (L : List PV) (s : ByteArray) : List PV :=
  if firstAt (fun x => decide (x.n = s)) L < 0 then [] else if (L.getD (firstAt (fun x => decide (x.n = s)) L).toNat default).v.k = 0 then [] else [bareV (L.getD (firstAt (fun x => decide (x.n = s)) L).toNat default)]
def srtV (D : List PD) (L : List PV) : List PV := D.flatMap fun d => pickV L d.n
theorem srtV_more (D : List PD) (L : List PV) (j : Nat) (hj : j < D.length) : srtV (D.take (j + 1)) L = srtV (D.take j) L ++ pickV L (D.getD j default).n := by
  rw [List.take_succ_eq_append_getElem hj, srtV, List.flatMap_append]
  simp [srtV, List.getD, List.getElem?_eq_getElem hj]
theorem pickV_len (L : List PV) (s : ByteArray) : (pickV L s).length ≤ 1 := by
  unfold pickV
  split
  · simp
  · split <;> simp
theorem srtV_len : ∀ (D : List PD) (L : List PV), (srtV D L).length ≤ D.length
  | [], _ => by simp [srtV]
  | d :: D, L => by
    have := srtV_len D L
    have := pickV_len L d.n
    simp only [srtV, List.flatMap_cons, List.length_append, List.length_cons] at *
    omega
/-- A property without a path, whose texts are no longer than may be. -/
structure Bare (x : PV) : Prop where
  nz : x.n.size ≤ maxLen
  sz : x.v.s.size ≤ maxLen
  p : x.v.p = none
  l : x.v.l = 0
  c : x.v.c = 0
  z : x.v.z = []
theorem pickV_bare (L : List PV) (s : ByteArray) (h : ∀ i, i < L.length → (L.getD i default).n.size ≤ maxLen ∧ (L.getD i default).v.s.size ≤ maxLen) : ∀ x ∈ pickV L s, Bare x := by
  intro x hx
  have hlo := firstAt_lo (fun x : PV => decide (x.n = s)) L
  unfold pickV at hx
  split at hx
  · simp at hx
  · split at hx
    · simp at hx
    · have k := h (firstAt (fun x => decide (x.n = s)) L).toNat (by omega)
      rw [List.mem_singleton] at hx
      subst hx
      exact ⟨k.1, k.2, rfl, rfl, rfl, rfl⟩
theorem srtV_bare (D : List PD) (L : List PV) (h : ∀ i, i < L.length → (L.getD i default).n.size ≤ maxLen ∧ (L.getD i default).v.s.size ≤ maxLen) : ∀ x ∈ srtV D L, Bare x := by
  intro x hx
  obtain ⟨d, _, hd⟩ := List.mem_flatMap.1 hx
  exact pickV_bare L _ h x hd
theorem PVsAt.sz {w : World} {a : Option Addr} {L : List PV} (h : PVsAt w a L) : ∀ i, i < L.length → (L.getD i default).n.size ≤ maxLen ∧ (L.getD i default).v.s.size ≤ maxLen := by
  rcases h with rfl | ⟨g, off, e, h⟩
  · intro i hi; simp at hi
  · exact fun i hi => ⟨(h i hi).nz, (h i hi).sz⟩
theorem getD_mem {α : Type} [Inhabited α] (L : List α) (i : Nat) (h : i < L.length) : L.getD i default ∈ L := by
  simp [List.getD, List.getElem?_eq_getElem h]
theorem PVsAt.of_rows {w : World} {g : Nat} {M : List PV} (h : OR w g 6 cellsV M) (hk : ∀ x ∈ M, Bare x) : PVsAt w (some ⟨g, 0, none⟩) M := by
  refine .inr ⟨g, 0, rfl, fun i hi => ?_⟩
  have c := h.cell i hi
  have k := hk _ (getD_mem M i hi)
  exact ⟨by rw [Nat.zero_add]; exact c 0 (by decide), by rw [Nat.zero_add]; exact c 1 (by decide), by rw [Nat.zero_add]; exact c 2 (by decide), by rw [Nat.zero_add]; exact c 3 (by decide), by rw [Nat.zero_add]; exact c 4 (by decide), by rw [Nat.zero_add]; exact c 5 (by decide), k.nz, k.sz, by rw [k.z, k.l]; rfl, .inl k.z⟩
theorem own_slice {w : World} {base : Nat} {e : TypeId} {size : Nat} {v : Value} {n : Nat} {xs : List Value} (h : w.ownsRow base e size v n xs) : ∃ p c, v = .slice p n c := by
  rcases h.2 with ⟨rfl, rfl⟩ | ⟨g, cap, cur, rfl, _⟩
  · exact ⟨none, 0, rfl⟩
  · exact ⟨_, _, rfl⟩
theorem own_low {w w' : World} {base : Nat} {e : TypeId} {size : Nat} {v : Value} {n : Nat} {xs : List Value} (h : w.ownsRow base e size v n xs) (hb : Below w.heap.size w w') : w'.ownsRow base e size v n xs := by
  refine ⟨h.1, ?_⟩
  rcases h.2 with h0 | ⟨g, cap, cur, e1, h2, hg, h3⟩
  · exact .inl h0
  · refine .inr ⟨g, cap, cur, e1, h2, ?_, h3⟩
    rw [hb.block g (Array.getElem?_eq_some_iff.1 hg).1, hg]

theorem own_base {w : World} {base : Nat} {e : TypeId} {size : Nat} {v : Value} {n : Nat} {xs : List Value} (h : w.ownsRow base e size v n xs) : ∀ k, v.ownBlock = some k → base ≤ k := by
  intro k hk
  rcases h.2 with ⟨rfl, _⟩ | ⟨g, cap, cur, rfl, h2, _⟩
  · cases hk
  · cases hk; exact h2
theorem size_new (w : World) (o : Obj) : (w.alloc o).heap.size = w.heap.size + 1 := by simp
/-- A property behind a row of properties: the row ahead of append, what is put behind, the row behind it. -/
theorem app_one {w w1 : World} {S : List PV} {v : Value} (ho : w1.ownsRow w.heap.size 102 6 v S.length (rowV S)) (hb : Below w.heap.size w w1) (y : PV) (hs : S.length ≤ 32) :
    ((w1.alloc (.cells (cellsV y).toArray 102)).alloc (.cells (cellsV y).toArray 102)).ownsRow w.heap.size 102 6 v S.length (rowV S) ∧
    (∀ j u, (cellsV y)[j]? = some u → ((w1.alloc (.cells (cellsV y).toArray 102)).alloc (.cells (cellsV y).toArray 102)).cell? ((⟨w1.heap.size + 1, 0, none⟩ : Addr).add j) = some u) ∧
    (∀ v' w', w'.ownsRow w.heap.size 102 6 v' (S.length + 1) (rowV S ++ cellsV y) → ((w1.alloc (.cells (cellsV y).toArray 102)).alloc (.cells (cellsV y).toArray 102)).grownBy w' v.ownBlock →
      ∃ p c, v' = .slice p (S.length + 1) c ∧ w'.ownsRow w.heap.size 102 6 (.slice p (S.length + 1) c) (S.length + 1) (rowV (S ++ [y])) ∧ Below w.heap.size w w') ∧ w.heap.size ≤ ((w1.alloc (.cells (cellsV y).toArray 102)).alloc (.cells (cellsV y).toArray 102)).heap.size := by
  have hB : Below w1.heap.size w1 ((w1.alloc (.cells (cellsV y).toArray 102)).alloc (.cells (cellsV y).toArray 102)) := below_on (below_new _ _) (below_new _ _)
  refine ⟨own_low ho hB, fun j u hu => ?_, fun v' w' hown hg => ?_, Nat.le_trans hb.size hB.size⟩
  · have hn : ((w1.alloc (.cells (cellsV y).toArray 102)).alloc (.cells (cellsV y).toArray 102)).heap[w1.heap.size + 1]? = some (.cells (cellsV y).toArray 102) := by
      generalize (Obj.cells (cellsV y).toArray 102) = o
      rw [← size_new w1 o]
      exact heap_alloc_new _ _
    exact World.news_of_block hn j u (by simpa using hu)
  · obtain ⟨p, c, rfl⟩ := own_slice hown
    refine ⟨p, c, rfl, by simpa [rowV] using hown, grown_below (below_on hb hB) hg (own_base ho) (Nat.le_refl _)⟩

set_option maxRecDepth 100000 in
set_option maxHeartbeats 4000000 in
theorem sortProps_own (a : Option Addr) (n c : Nat) (D : List PD) (va : Option Addr) (vn vc : Nat) (L : List PV) (w : World) (hn : D.length = n) (hm : n ≤ 32) (hD : PDsAt w a D) (hv : L.length = vn) (hvm : vn ≤ maxLen) (hL : PVsAt w va L) :
    Calls Tryd.prog 52 #[.slice a n c, .slice va vn vc] w fun e w' => ∃ u, e = .returned u ∧ w'.ownsRow w.heap.size 102 6 u (srtV D L).length (rowV (srtV D L)) ∧ Below w.heap.size w w' := by
  have hI := fun s g w' (hb : Below w.heap.size w w') (h : w'.cell? ⟨g, 0, none⟩ = some (.string s)) => pv_index va vn vc L s g w' hv hvm (hL.below hb) h
  have hmf : ∀ (fn : Fn) (first cap : Array Value) (w : World), (Instr.makeFunc fn first cap).run Tryd.prog w = .ok (.func fn first cap) w := fun _ _ _ _ => rfl
  unfold maxLen at hvm
  obtain ⟨i0, hi0, hz0, hz1, hz2⟩ := info_parts info102
  replace hI : Hid _ := hI
  go_enter Tryd.func52, Tryd.ntmps52
  go_wp2_with fail
  go_loopw [12, 5] (fun i o wr => ∃ (j : Nat), j ≤ n ∧ i = .int .i64 j ∧ wr.ownsRow w.heap.size 102 6 o (srtV (D.take j) L).length (rowV (srtV (D.take j) L)) ∧ Below w.heap.size w wr) (fun i o _ => n - (intOf i).toNat)
  case atStart => exact ⟨0, by omega, rfl, World.ownsRow_nil _ _ _ _, Below.refl _ _⟩
  case round =>
    obtain ⟨j, j1, rfl, ho, hb⟩ := hrel
    obtain ⟨op, oc, rfl⟩ := own_slice ho
    by_cases hj : j < n
    · have hDr := hD.below hb
      have hLr := hL.below hb
      rcases hDr with rfl | ⟨y, q, rfl, hyy⟩
      · simp at hn; omega
      have hyj := hyy j (by omega)
      have hmore := srtV_more D L j (by omega)
      have hlen := srtV_len (D.take j) L
      have hlen2 : (D.take j).length ≤ 32 := by simp; omega
      generalize hgS : srtV (D.take j) L = S at ho hmore hlen
      generalize D.getD j default = X at hyj hmore
      obtain ⟨m0, m1, _⟩ := hyj
      have hbx := below_new wr (.cells #[.string X.n, .int .i64 X.k] 80)
      have hcx : (wr.alloc (.cells #[.string X.n, .int .i64 X.k] 80)).cell? ⟨wr.heap.size, 0, none⟩ = some (.string X.n) := by simp only [World.cell?, heap_alloc_new]; simp
      have hi := hI.out X.n wr.heap.size _ (below_on hb hbx) hcx
      have hlo := firstAt_lo (fun x : PV => decide (x.n = X.n)) L
      have hpk : pickV L X.n = if firstAt (fun x => decide (x.n = X.n)) L < 0 then [] else if (L.getD (firstAt (fun x => decide (x.n = X.n)) L).toNat default).v.k = 0 then [] else [bareV (L.getD (firstAt (fun x => decide (x.n = X.n)) L).toNat default)] := rfl
      generalize firstAt (fun x : PV => decide (x.n = X.n)) L = F at hi hlo hpk
      have hLx := hLr.below hbx
      have hox := own_low ho hbx
      clear ho hLr
      by_cases hF : F < 0
      · rw [if_pos hF] at hpk
        rw [hpk, List.append_nil] at hmore
        have hF1 : F = -1 := by omega
        subst hF1
        replace hi : Hid _ := hi
        replace hpk : Hid _ := hpk
        replace hgS : Hid _ := hgS
        go_wp2_with (go_at_call 66; refine Calls.mono hi.out ?_; rintro e w1 ⟨rfl, hb1⟩)
        exact ⟨⟨j + 1, by omega, rfl, by rw [hmore]; exact own_low hox hb1, below_on (below_on hb hbx) hb1⟩, by show n - ((j : Int) + 1).toNat < n - (j : Int).toNat; omega⟩
      · rw [if_neg hF] at hpk
        obtain ⟨u, rfl⟩ : ∃ u : Nat, F = u := ⟨F.toNat, by omega⟩
        rw [Int.toNat_natCast] at hpk
        have hu : u < vn := by omega
        rcases hLx with hL0 | ⟨z, p, hva, hzz⟩
        · subst hL0; simp at hv; omega
        have hzu := hzz u (by omega)
        generalize L.getD u default = Z at hzu hpk
        obtain ⟨n0, n1, n2, n3, n4, n5, _, _, _, _⟩ := hzu
        subst hva
        by_cases hk : Z.v.k = 0
        · rw [if_pos hk] at hpk
          rw [hpk, List.append_nil] at hmore
          rw [hk] at n1
          replace hi : Hid _ := hi
          replace hpk : Hid _ := hpk
          replace hgS : Hid _ := hgS
          replace hk : Hid _ := hk
          go_wp2_with (go_at_call 66; refine Calls.mono hi.out ?_; rintro e w1 ⟨rfl, hb1⟩; replace n1 := (hb1.cell (World.block_lt_of_cell? _ _ n1)).trans n1)
          exact ⟨⟨j + 1, by omega, rfl, by rw [hmore]; exact own_low hox hb1, below_on (below_on hb hbx) hb1⟩, by show n - ((j : Int) + 1).toNat < n - (j : Int).toNat; omega⟩
        · rw [if_neg hk] at hpk
          rw [hpk] at hmore
          replace hi : Hid _ := hi
          replace hpk : Hid _ := hpk
          replace hgS : Hid _ := hgS
          have hk' : (Z.v.k == 0) = false := by simpa using hk
          have fin := fun w1 (hb1 : Below (wr.alloc (.cells #[.string X.n, .int .i64 X.k] 80)).heap.size (wr.alloc (.cells #[.string X.n, .int .i64 X.k] 80)) w1) => app_one (own_low hox hb1) (below_on (below_on hb hbx) hb1) (bareV Z) (by omega)
          replace fin : Hid _ := fin
          replace hk : Hid _ := hk
          clear hox
          go_wp2_with (first
            | (go_at_call 66; refine Calls.mono hi.out ?_; rintro e w1 ⟨rfl, hb1⟩; replace n0 := (hb1.cell (World.block_lt_of_cell? _ _ n0)).trans n0; replace n1 := (hb1.cell (World.block_lt_of_cell? _ _ n1)).trans n1; replace n2 := (hb1.cell (World.block_lt_of_cell? _ _ n2)).trans n2; replace n3 := (hb1.cell (World.block_lt_of_cell? _ _ n3)).trans n3; replace n4 := (hb1.cell (World.block_lt_of_cell? _ _ n4)).trans n4; replace n5 := (hb1.cell (World.block_lt_of_cell? _ _ n5)).trans n5; obtain ⟨own0, hcl, fin2, hle⟩ := fin.out w1 hb1; replace fin2 : Hid _ := fin2)
            | (at_builtin; refine wpList_append_own_at _ rfl _ _ 42 rfl w.heap.size 102 i0 _ 6 80 Tryd.underlying42 hi0 hz0 hz1 hz2 rfl (by decide) _ _ _ rfl own0 ⟨w1.heap.size + 1, 0, none⟩ 1 1 (cellsV (bareV Z)) rfl (by rfl) hcl (oneV _) (by unfold maxLen; omega) (by omega) hle ?_; intro v' w' hown hgrow hnil hat; obtain ⟨p', c', rfl, hown2, hb2⟩ := fin2.out v' w' hown hgrow; clear hown hgrow hnil hat))
          exact ⟨⟨j + 1, by omega, rfl, by rw [hmore]; simpa using hown2, hb2⟩, by show n - ((j : Int) + 1).toNat < n - (j : Int).toNat; omega⟩
    · have hjn : j = n := by omega
      subst hjn
      have ht : D.take j = D := by rw [← hn]; simp
      go_wp2_with fail
      go_returns
      refine ⟨_, rfl, ?_, hb⟩
      show wr.ownsRow _ _ _ (Value.slice op (srtV (List.take j D) L).length oc) _ _
      rw [ht] at ho ⊢
      exact ho
end Go.Proofs.YtmioohbailhppaaDoor
