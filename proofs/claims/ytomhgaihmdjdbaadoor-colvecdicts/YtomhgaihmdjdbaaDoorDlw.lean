/-
  ColvecDicts: its own walk.
-/
import Derived.Test.YtomhgaihmdjdbaaDoorDla
import Derived.Test.YtomhgaihmdjdbaaDoorOfw
import Derived.Test.YtomhgaihmdjdbaaDoorTruths
import Derived.Lib.QuietBelow
import Derived.BigQuiet
namespace Go.Proofs.YtomhgaihmdjdbaaDoor
open Go.RowKit Go.Sort
set_option linter.unusedSimpArgs false
set_option linter.unusedVariables false

/-- A list of texts that came in. -/
def StrsAt (w : World) (a : Option Addr) (T : List ByteArray) : Prop :=
  T = [] ∨ ∃ g off, a = some ⟨g, off, none⟩ ∧ ∀ i, i < T.length → w.cell? ⟨g, off + i, none⟩ = some (.string (T.getD i ByteArray.empty)) ∧ (T.getD i ByteArray.empty).size ≤ maxLen
theorem bytes_eq {a b : ByteArray} : (a.toList == b.toList) = decide (a = b) := by
  by_cases h : a = b
  · simp [h]
  · have : a.toList ≠ b.toList := fun e => h (by
      rw [ByteArray.toList_eq, ByteArray.toList_eq] at e
      exact ByteArray.ext (Array.toList_inj.1 e))
    simp [h, this]
/-- Is a text among others? -/
def memB (X : List ByteArray) (s : ByteArray) : Bool := X.any fun t => decide (t = s)
theorem memB_t (X : List ByteArray) (s : ByteArray) : memB X s = true ↔ s ∈ X := by simp [memB]
theorem known_next (X : List ByteArray) (s : ByteArray) (k : Nat) (hk : k < X.length) : memB (X.take (k + 1)) s = (memB (X.take k) s || decide (X[k] = s)) := by
  unfold memB
  rw [List.take_succ_eq_append_getElem hk, List.any_append]
  simp only [List.any_cons, List.any_nil, Bool.or_false]
theorem start_ds (w w2 : World) (x : Nat) (hb : Below w.heap.size w w2) (hV : VB w2 x 3 (.slice none 0 0) (.slice none 0 0) (.slice none 0 0) (.map none) (.slice none 0 0)) (hx : w.heap.size ≤ x) : DS w w2 x (col0 3) 0 none 0 :=
  ⟨hb, col_new hV hx, rfl, rfl, Nat.le_refl _, rfl, Nat.le_refl _, World.ownsRow_nil _ _ _ _, fun b h => by cases h⟩

set_option maxRecDepth 100000 in
set_option maxHeartbeats 8000000 in
theorem Dicts_walk (a : Option Addr) (n c : Nat) (T : List ByteArray) (oa : Option Addr) (on oc : Nat) (D : Nat → VV) (w : World) (lT : T.length = n) (hl : StrsAt w a T) (hn : n * 16 ≤ 140737488351232) (hv : ValsAt w oa on D) (hon : on * 64 ≤ 140737488351232) (hTb : Tabs w) :
    Calls Tryd.prog 7 #[.slice a n c, .slice oa on oc] w fun e w' => e = .returned (.bool true) ∧ Below w.heap.size w w' := by
  have hH := head_any w
  have hN := fun w => New_yes 3 w (by decide) (by decide)
  replace hH : Hid _ := hH
  replace hN : Hid _ := hN
  replace hv : Hid _ := hv
  replace hTb : Hid _ := hTb
  go_enter Tryd.func7, Tryd.ntmps7
  go_wp2_with (first
    | (go_at_call 9; refine Calls.mono hH.out ?_; rintro e w1 ⟨rfl, hb1⟩)
    | (go_at_call 11; refine Calls.mono (hN.out _) ?_; rintro e w2 ⟨rfl, hV2, hb2, hz2⟩))
  have hD0 := start_ds w w2 w1.heap.size (below_on hb1 hb2) hV2 hb1.size
  generalize w1.heap.size = x at hD0 ⊢
  clear hH hN hV2 hb1 hb2 hz2
  go_loopw [7, 8] (fun wv iv wr => ∃ (i : Nat) (C : Col) (ta : Option Addr) (tc : Nat), i ≤ n ∧ iv = .int .i64 i ∧ wv = .slice ta C.X.length tc ∧ Hid (DS w wr x C i ta tc)) (fun _ iv _ => n - (intOf iv).toNat)
  case atStart => exact ⟨0, col0 3, none, 0, by omega, rfl, rfl, hD0⟩
  case round =>
    clear hD0
    obtain ⟨i, C, ta, tc, i1, rfl, rfl, hD⟩ := hrel
    have hXi := hD.out.xx
    by_cases hi : i < n
    · rcases hl with rfl | ⟨g, off, rfl, hx⟩
      · simp at lT; omega
      obtain ⟨hc, hsz⟩ := hx i (by omega)
      have hcr := (hD.out.bel.cell (World.block_lt_of_cell? _ _ hc)).trans hc
      have hgl := World.block_lt_of_cell? _ _ hc
      generalize T.getD i ByteArray.empty = s at hc hcr hsz
      clear hx
      have hA := hD.out.append s hsz hi hn (Tabs.below hTb.out hD.out.bel)
      replace hA : Hid _ := hA
      go_wp2_with (go_at_call 16; refine Calls.mono hA.out ?_; rintro e w3 ⟨z, q, C', rfl, hzq, hM⟩)
      clear hA hcr hD
      go_loopw [10, 11] (fun kn kv wr2 => ∃ k : Nat, k ≤ C.X.length ∧ kv = .int .i64 k ∧ kn = .bool (q || memB (C.X.take k) s) ∧ Hid (MD w wr2 x C.X C' i ta tc q s)) (fun _ kv _ => C.X.length - (intOf kv).toNat)
      case atStart => exact ⟨0, by omega, rfl, by simp [hzq, memB], hM⟩
      case round =>
        clear hM
        obtain ⟨k, k1, rfl, rfl, hM⟩ := hrel
        by_cases hk : k < C.X.length
        · obtain ⟨gw, cw, hta, hcw, _, _, _⟩ := own_at hM.out.own k hk
          cases hta
          have hci := (hM.out.bel.cell (World.block_lt_of_cell? _ _ hc)).trans hc
          have hcw' : wr.cell? ⟨gw, k, none⟩ = some (.string C.X[k]) := by rw [hcw]; simp [List.getElem?_eq_getElem hk]
          have hkn := known_next C.X s k hk
          clear hcw
          generalize C.X[k] = tk at hcw' hkn
          have e0 := cell_regrown hcw'
          have e1 := cell_regrown hci
          clear hcw' hci
          cases hq : (q || memB (C.X.take k) s)
          all_goals
            go_wp2_with fail
            refine wp_region_quiet_below (by kernel_rfl) (by kernel_rfl) ?_
            repeat (first | go_big_quiet_step (fail) | quiet_step (fail))
            refine wpQuiet_nil ?_
            intro _ hw'
            obtain ⟨⟨dq, osq⟩, hw''⟩ := hw'
            subst hw''
            have hM2 : Hid _ := hM.out.below (below_regrown wr dq osq)
            generalize grow (redrawn wr dq) osq = w5 at hM2 ⊢
            go_wp2_with fail
            go_roundw
            case rel => exact ⟨k + 1, by omega, rfl, by rw [hkn, ← Bool.or_assoc, hq]; first | rfl | (simp [bytes_eq]; done), hM2⟩
            case measure =>
              show C.X.length - ((k : Int) + 1).toNat < C.X.length - (k : Int).toNat
              omega
        · obtain rfl : k = C.X.length := by omega
          rw [List.take_length]
          have hci := (hM.out.bel.cell (World.block_lt_of_cell? _ _ hc)).trans hc
          cases hq : (q || memB C.X s)
          · rw [Bool.or_eq_false_iff] at hq
            obtain ⟨rfl, hmm⟩ := hq
            have hns : s ∉ C.X := fun h => by rw [(memB_t C.X s).2 h] at hmm; cases hmm
            obtain ⟨i0, hi0, hz0, hz1, hz2⟩ := info_parts info9x
            have hown0 := hM.out.own.alloc (.cells #[.string s] 9)
            have hbs := hM.out.bel.size
            clear hmm
            go_wp2_with (at_builtin; refine wpList_append_own_at _ rfl _ _ 54 rfl w.heap.size 9 i0 _ 1 16 Tryd.underlying54 hi0 hz0 hz1 hz2 rfl (by decide) _ _ _ rfl hown0 ⟨wr.heap.size, 0, none⟩ 1 1 [.string s] rfl rfl (cell_one_new wr (.string s) 9) (by simp [Value.oneCell']) (by unfold maxLen; omega) (by omega) (by simp; omega) ?_; intro v' w' hown hgrow hnil hat; obtain ⟨g', cap', rfl, _, _⟩ := hown.form (by omega); have hmo := hM.out.more hns hgrow hown (by rcases hat with h | h; exact .inl h.symm; exact .inr (by simpa [Value.ownBlock] using h)))
            have hmo2 : Hid _ := hmo.2
            have el := hmo.1
            go_roundw
            case rel => exact ⟨i + 1, C', some ⟨g', 0, none⟩, cap', by omega, rfl, by rw [el], hmo2⟩
            case measure =>
              show n - ((i : Int) + 1).toNat < n - (i : Int).toNat
              omega
          · rw [Bool.or_eq_true, memB_t] at hq
            obtain ⟨el, hds⟩ := hM.out.same hq
            replace hds : Hid _ := hds
            clear hM hq
            go_wp2_with fail
            go_roundw
            case rel => exact ⟨i + 1, C', ta, tc, by omega, rfl, by rw [el], hds⟩
            case measure =>
              show n - ((i : Int) + 1).toNat < n - (i : Int).toNat
              omega
    · have hDi := Dict_any w.heap.size x C wr hD.out.col (by omega)
      replace hDi : Hid _ := hDi
      go_wp2_with (go_at_call 29; refine Calls.mono hDi.out ?_; rintro e w5 ⟨u, rfl, ho5, hb5⟩; obtain ⟨ua, uc, rfl⟩ := own_slice ho5)
      all_goals try (exfalso; simp_all; done)
      have hd5 : Hid _ := hD.out.below hb5
      replace ho5 : Hid _ := ho5
      have hbw := hd5.out.bel
      clear hDi hD hb5
      go_loopw [13] (fun kv wr => ∃ k : Nat, k ≤ C.X.length ∧ kv = .int .i64 k ∧ Hid (Below w5.heap.size w5 wr)) (fun kv _ => C.X.length - (intOf kv).toNat)
      case atStart => exact ⟨0, by omega, rfl, Below.refl _ _⟩
      case round =>
        obtain ⟨k, k1, rfl, hbr⟩ := hrel
        by_cases hk : k < C.X.length
        · obtain ⟨gw, cw, hta, hcw, _, hlw, _⟩ := own_at hd5.out.own k hk
          obtain ⟨gu, cu, htu, hcu, _, hlu, _⟩ := own_at ho5.out k hk
          cases hta
          cases htu
          have hcw' : wr.cell? ⟨gw, k, none⟩ = some (.string C.X[k]) := by rw [hbr.out.cell hlw, hcw]; simp [List.getElem?_eq_getElem hk]
          have hcu' : wr.cell? ⟨gu, k, none⟩ = some (.string C.X[k]) := by rw [hbr.out.cell hlu, hcu]; simp [List.getElem?_eq_getElem hk]
          clear hcw hcu hlw hlu
          generalize C.X[k] = tk at hcw' hcu'
          have e0 := cell_regrown hcw'
          have e1 := cell_regrown hcu'
          clear hcw' hcu'
          go_wp2_with fail
          refine wp_region_quiet_below (by kernel_rfl) (by kernel_rfl) ?_
          repeat (first | go_big_quiet_step (fail) | quiet_step (fail))
          refine wpQuiet_nil ?_
          intro _ hw'
          obtain ⟨⟨dq, osq⟩, hw''⟩ := hw'
          subst hw''
          have hb6 : Hid _ := below_on hbr.out (below_regrown wr dq osq)
          generalize grow (redrawn wr dq) osq = w6 at hb6 ⊢
          go_wp2_with fail
          all_goals try (exfalso; simp_all; done)
          go_roundw
          case rel => exact ⟨k + 1, by omega, rfl, hb6⟩
          case measure =>
            show C.X.length - ((k : Int) + 1).toNat < C.X.length - (k : Int).toNat
            omega
        · have hbw2 : Below w.heap.size w wr := hbw.trans (hbr.out.mono hbw.size)
          have hvr := ValsAt.below hv.out hbw2
          have hlen : ∀ i, i < on → (D i).z.length = (D i).l := fun i hi => by
            obtain ⟨_, _, _, va⟩ := ValsAt.at hv.out i hi
            exact va.ln
          have hOf := Of_any 2 (by decide) (by decide) oa on oc D wr hvr (Tabs.below hTb.out hbw2) hon (fun j hj ha hr => by rw [(fold_int D j (fun i hi => hlen i (by omega)) ha).1]; have := (right_short (D j) (hlen j hj) hr).1; simp; omega)
          have hfi := fold_int D on hlen
          clear hl hlen hvr hd5 ho5 hbr hv
          cases hall : allT 2 D on
          · have hOf2 : Calls Tryd.prog 13 #[.int .i64 2, .slice oa on oc] wr fun e w' => e = .returned (.tuple #[.pointer none, .int .i64 31]) ∧ Below wr.heap.size wr w' := Calls.mono hOf fun e w' ⟨q1, _, q3⟩ => ⟨q3 hall, q1⟩
            replace hOf2 : Hid _ := hOf2
            clear hOf hfi
            go_wp2_with (go_at_call 13; refine Calls.mono hOf2.out ?_; rintro e w7 ⟨rfl, hb7⟩)
            go_returns
            exact ⟨by simp, hbw2.trans (hb7.mono hbw2.size)⟩
          · have hOf2 : Calls Tryd.prog 13 #[.int .i64 2, .slice oa on oc] wr fun e w' => ∃ x2 C2, e = .returned (.tuple #[.pointer (some ⟨x2, 0, none⟩), .int .i64 0]) ∧ Hid (ColAt w' wr.heap.size x2 C2) ∧ C2.X = [] ∧ Below wr.heap.size wr w' := Calls.mono hOf fun e w' ⟨q1, q2, _⟩ => by
              obtain ⟨x2, C2, rfl, hc2, hcn⟩ := q2 hall
              exact ⟨x2, C2, rfl, hc2, by have : (cnt C2).X = (foldC 2 D on).X := congrArg Cnt.X hcn; rw [(hfi hall).2] at this; exact this, q1⟩
            replace hOf2 : Hid _ := hOf2
            clear hOf hfi
            go_wp2_with (first
              | (go_at_call 13; refine Calls.mono hOf2.out ?_; rintro e w7 ⟨x2, C2, rfl, hc2, hx2, hb7⟩; have hDd := Dict_any wr.heap.size x2 C2 w7 hc2.out (by rw [hx2]; simp); rw [hx2] at hDd; replace hDd : Hid _ := hDd; clear hc2 hx2)
              | (go_at_call 29; refine Calls.mono hDd.out ?_; rintro e w8 ⟨u8, rfl, ho8, hb8⟩; obtain ⟨ua8, uc8, rfl⟩ := own_slice ho8; clear ho8))
            go_returns
            exact ⟨by simp, (hbw2.trans (hb7.mono hbw2.size)).trans (hb8.mono (hbw2.trans (hb7.mono hbw2.size)).size)⟩
end Go.Proofs.YtomhgaihmdjdbaaDoor
