/-
  An expression is written by a closure that goes down.
-/
import Derived.Test.YtkcnpbckmdgfnaaGreatDoorOwa
import Derived.BigQuiet
import Derived.Deep.RegionHeld3
import Derived.Deep.RegionWith
import Derived.Deep.DeepCutAuto
namespace Go.Proofs.YtkcnpbckmdgfnaaGreatDoor
open Go.ChangeShapes Go.WideShapes Go.ChangeAt Go.RowKit
set_option linter.unusedSimpArgs false
set_option linter.unusedVariables false

def Tr.ph : Tr → List Int
  | .mk _ _ _ _ _ _ _ ph _ => ph
def Tr.val (kv pv : Value) : Tr → Value
  | .mk op nm pr k b n t _ _ => .agg #[.int .i64 op, kv, .string (txt nm), .string (txt pr), .int .i64 k, .bool b, .int .i64 n, .string (txt t), pv]
def DownOk (w0 : World) (b c1 c2 : Nat) (x : Tr) : Prop := ∀ (place deep : Int) (kv pv : Value) (T : List UInt8) (w : World), 1 ≤ place → place ≤ 8 → 0 ≤ deep → deep ≤ 50 → fineT x → TAt w0 x kv → PhAt w0 x.ph pv → Below w0.heap.size w0 w →
  w.heap[c1]? = some (.cells #[.pointer (some ⟨b, 0, none⟩)] 52 (0, 0)) → w.heap[c2]? = some (.cells #[.func (.func 65) #[] #[.pointer (some ⟨c1, 0, none⟩), .pointer (some ⟨c2, 0, none⟩)]] 121 (0, 0)) → TxAt w0.heap.size b T w →
  Calls Tryz.prog 65 #[x.val kv pv, .int .i64 place, .int .i64 deep, .pointer (some ⟨c1, 0, none⟩), .pointer (some ⟨c2, 0, none⟩)] w fun e w' => e = .returned (.bool (okT place deep x)) ∧ Kps w0.heap.size b w w' ∧ (okT place deep x = true → TxAt w0.heap.size b (T ++ txT place x) w') ∧ ∃ T', TxAt w0.heap.size b T' w'
theorem new_box {w w1 : World} {B b : Nat} {cs : Array Value} {T : TypeId} (h : Kps B b (w.alloc (.cells cs T)) w1) (hT : T ≠ 5) (hb : w.heap.size ≠ b) : w1.heap[w.heap.size]? = some (.cells cs T (0, 0)) :=
  h.box (heap_alloc_new w _) hT hb
theorem TAt.below {w w' : World} (hb : Below w.heap.size w w') : ∀ (x : Tr) (v : Value), TAt w x v → TAt w' x v := by
  intro x
  induction x using Tr.ind with
  | h op nm pr k b n t ph ks ih =>
    intro v h
    rw [TAt] at h ⊢
    obtain ⟨p, c, rfl, h⟩ := h
    refine ⟨p, c, rfl, ?_⟩
    rcases h with h | ⟨g, o, rfl, h⟩
    · exact .inl h
    · refine .inr ⟨g, o, rfl, ?_⟩
      induction ks generalizing o with
      | nil => rw [LAt]; trivial
      | cons x r ihr =>
        rw [LAt] at h ⊢
        obtain ⟨⟨kv, pv, h1, h2⟩, h3⟩ := h
        refine ⟨⟨kv, pv, ?_, ih x (by simp) kv h2⟩, ihr (fun y hy => ih y (by simp [hy])) _ h3⟩
        cases x with
        | mk op nm pr k b n t ph kk =>
          obtain ⟨p, c, e, hp⟩ := h1.2
          exact ⟨h1.1.below hb, p, c, e, hp.below hb⟩
theorem PhAt.below {w w' : World} {ph : List Int} {v : Value} (h : PhAt w ph v) (hb : Below w.heap.size w w') : PhAt w' ph v := by
  obtain ⟨p, c, e, hp⟩ := h
  exact ⟨p, c, e, hp.below hb⟩
theorem form_len (op : Int) : (fmOf op).ah.length ≤ 100 ∧ (fmOf op).be.length ≤ 100 ∧ (fmOf op).bt.length ≤ 100 ∧ (fmOf op).pl.length ≤ 2 := by
  unfold fmOf
  split
  · rename_i h
    have hi : op.toNat < 27 := by simp [isOp] at h; omega
    have key : ∀ i : Fin 27, (formsL.getD i.1 fz).ah.length ≤ 100 ∧ (formsL.getD i.1 fz).be.length ≤ 100 ∧ (formsL.getD i.1 fz).bt.length ≤ 100 ∧ (formsL.getD i.1 fz).pl.length ≤ 2 := by decide
    exact key ⟨op.toNat, hi⟩
  · exact ⟨by decide, by decide, by decide, by decide⟩
theorem two_small {a c : List UInt8} (h1 : a.length ≤ 200) (h2 : c.length ≤ 100000) : ∀ i, i < [a, c].length → ([a, c].getD i []).length ≤ 1000000
  | 0, _ => by show a.length ≤ _; omega
  | 1, _ => by show c.length ≤ _; omega
  | n + 2, h => absurd h (by simp)
theorem two_row {a c : List UInt8} : ∀ i, i < [a, c].length → (#[.string (txt a), .string (txt c)] : Array Value)[i]? = some (.string (txt ([a, c].getD i [])))
  | 0, _ => rfl
  | 1, _ => rfl
  | n + 2, h => absurd h (by simp)
theorem one_small {a : List UInt8} (h1 : a.length ≤ 200) : ∀ i, i < [a].length → ([a].getD i []).length ≤ 1000000
  | 0, _ => by show a.length ≤ _; omega
  | n + 1, h => absurd h (by simp)
theorem one_row {a : List UInt8} : ∀ i, i < [a].length → (#[.string (txt a)] : Array Value)[i]? = some (.string (txt ([a].getD i [])))
  | 0, _ => rfl
  | n + 1, h => absurd h (by simp)
theorem says_two {B b : Nat} {T a c : List UInt8} {w4 : World} (h : TxAt B b T w4) (hB : B ≤ w4.heap.size) (hb : b < w4.heap.size) (h1 : a.length ≤ 200) (h2 : c.length ≤ 100000) :
    Calls Tryz.prog 35 #[.pointer (some ⟨b, 0, none⟩), .slice (some ⟨w4.heap.size, 0, none⟩) 2 2] (w4.alloc (.cells #[.string (txt a), .string (txt c)] 9)) fun e w' => e = .returned (.tuple #[]) ∧ TxAt B b (T ++ (a ++ c)) w' ∧ Kps B b w4 w' := by
  have hbn := below_new w4 (.cells #[.string (txt a), .string (txt c)] 9)
  refine (says_any [a, c] w4.heap.size 2 _ _ (TxAt.below h hbn) (Nat.le_trans hB hbn.size) (two_small h1 h2) (by simp) (heap_alloc_new _ _) (by omega) two_row).mono ?_
  rintro e w' ⟨rfl, ht, hk⟩
  refine ⟨rfl, ?_, (Kps.of hbn hB).trans hk⟩
  have e : [a, c].flatten = a ++ c := by simp
  rw [e] at ht
  exact ht
theorem says_one {B b : Nat} {T a : List UInt8} {w4 : World} (h : TxAt B b T w4) (hB : B ≤ w4.heap.size) (hb : b < w4.heap.size) (h1 : a.length ≤ 200) :
    Calls Tryz.prog 35 #[.pointer (some ⟨b, 0, none⟩), .slice (some ⟨w4.heap.size, 0, none⟩) 1 1] (w4.alloc (.cells #[.string (txt a)] 9)) fun e w' => e = .returned (.tuple #[]) ∧ TxAt B b (T ++ a) w' ∧ Kps B b w4 w' := by
  have hbn := below_new w4 (.cells #[.string (txt a)] 9)
  refine (says_any [a] w4.heap.size 1 _ _ (TxAt.below h hbn) (Nat.le_trans hB hbn.size) (one_small h1) (by simp) (heap_alloc_new _ _) (by omega) one_row).mono ?_
  rintro e w' ⟨rfl, ht, hk⟩
  refine ⟨rfl, ?_, (Kps.of hbn hB).trans hk⟩
  have e : [a].flatten = a := by simp
  rw [e] at ht
  exact ht
theorem form_pl (op : Int) (j : Nat) (hj : j < (fmOf op).pl.length) : 1 ≤ (fmOf op).pl.getD j 0 ∧ (fmOf op).pl.getD j 0 ≤ 8 := by
  have h2 := (form_len op).2.2.2
  unfold fmOf at hj ⊢
  split
  · rename_i h
    rw [if_pos h] at hj
    have hi : op.toNat < 27 := by simp [isOp] at h; omega
    have key : ∀ i : Fin 27, ∀ j : Fin 2, j.1 < (formsL.getD i.1 fz).pl.length → 1 ≤ (formsL.getD i.1 fz).pl.getD j.1 0 ∧ (formsL.getD i.1 fz).pl.getD j.1 0 ≤ 8 := by decide
    have hj2 : j < 2 := by
      unfold fmOf at h2
      rw [if_pos h] at h2
      omega
    exact key ⟨op.toNat, hi⟩ ⟨j, hj2⟩ hj
  · rename_i h
    rw [if_neg h] at hj
    exact absurd hj (by simp)
theorem frame95 (t : Array Value) (hs : t.size = 95) : ∃ u : Nat → Value, t = #[u 0, u 1, u 2, u 3, u 4, u 5, u 6, u 7, u 8, u 9, u 10, u 11, u 12, u 13, u 14, u 15, u 16, u 17, u 18, u 19, u 20, u 21, u 22, u 23, u 24, u 25, u 26, u 27, u 28, u 29, u 30, u 31, u 32, u 33, u 34, u 35, u 36, u 37, u 38, u 39, u 40, u 41, u 42, u 43, u 44, u 45, u 46, u 47, u 48, u 49, u 50, u 51, u 52, u 53, u 54, u 55, u 56, u 57, u 58, u 59, u 60, u 61, u 62, u 63, u 64, u 65, u 66, u 67, u 68, u 69, u 70, u 71, u 72, u 73, u 74, u 75, u 76, u 77, u 78, u 79, u 80, u 81, u 82, u 83, u 84, u 85, u 86, u 87, u 88, u 89, u 90, u 91, u 92, u 93, u 94] := by
  refine ⟨fun i => t.getD i undef, ?_⟩
  apply Array.ext
  · rw [hs]; rfl
  · intro i h1 h2
    have hi : i < 95 := by omega
    rw [show t[i] = t.getD i undef by simp [Array.getD, h1]]
    clear h1
    revert h2
    exact match i, hi with
    | 0, _ => fun _ => rfl
    | 1, _ => fun _ => rfl
    | 2, _ => fun _ => rfl
    | 3, _ => fun _ => rfl
    | 4, _ => fun _ => rfl
    | 5, _ => fun _ => rfl
    | 6, _ => fun _ => rfl
    | 7, _ => fun _ => rfl
    | 8, _ => fun _ => rfl
    | 9, _ => fun _ => rfl
    | 10, _ => fun _ => rfl
    | 11, _ => fun _ => rfl
    | 12, _ => fun _ => rfl
    | 13, _ => fun _ => rfl
    | 14, _ => fun _ => rfl
    | 15, _ => fun _ => rfl
    | 16, _ => fun _ => rfl
    | 17, _ => fun _ => rfl
    | 18, _ => fun _ => rfl
    | 19, _ => fun _ => rfl
    | 20, _ => fun _ => rfl
    | 21, _ => fun _ => rfl
    | 22, _ => fun _ => rfl
    | 23, _ => fun _ => rfl
    | 24, _ => fun _ => rfl
    | 25, _ => fun _ => rfl
    | 26, _ => fun _ => rfl
    | 27, _ => fun _ => rfl
    | 28, _ => fun _ => rfl
    | 29, _ => fun _ => rfl
    | 30, _ => fun _ => rfl
    | 31, _ => fun _ => rfl
    | 32, _ => fun _ => rfl
    | 33, _ => fun _ => rfl
    | 34, _ => fun _ => rfl
    | 35, _ => fun _ => rfl
    | 36, _ => fun _ => rfl
    | 37, _ => fun _ => rfl
    | 38, _ => fun _ => rfl
    | 39, _ => fun _ => rfl
    | 40, _ => fun _ => rfl
    | 41, _ => fun _ => rfl
    | 42, _ => fun _ => rfl
    | 43, _ => fun _ => rfl
    | 44, _ => fun _ => rfl
    | 45, _ => fun _ => rfl
    | 46, _ => fun _ => rfl
    | 47, _ => fun _ => rfl
    | 48, _ => fun _ => rfl
    | 49, _ => fun _ => rfl
    | 50, _ => fun _ => rfl
    | 51, _ => fun _ => rfl
    | 52, _ => fun _ => rfl
    | 53, _ => fun _ => rfl
    | 54, _ => fun _ => rfl
    | 55, _ => fun _ => rfl
    | 56, _ => fun _ => rfl
    | 57, _ => fun _ => rfl
    | 58, _ => fun _ => rfl
    | 59, _ => fun _ => rfl
    | 60, _ => fun _ => rfl
    | 61, _ => fun _ => rfl
    | 62, _ => fun _ => rfl
    | 63, _ => fun _ => rfl
    | 64, _ => fun _ => rfl
    | 65, _ => fun _ => rfl
    | 66, _ => fun _ => rfl
    | 67, _ => fun _ => rfl
    | 68, _ => fun _ => rfl
    | 69, _ => fun _ => rfl
    | 70, _ => fun _ => rfl
    | 71, _ => fun _ => rfl
    | 72, _ => fun _ => rfl
    | 73, _ => fun _ => rfl
    | 74, _ => fun _ => rfl
    | 75, _ => fun _ => rfl
    | 76, _ => fun _ => rfl
    | 77, _ => fun _ => rfl
    | 78, _ => fun _ => rfl
    | 79, _ => fun _ => rfl
    | 80, _ => fun _ => rfl
    | 81, _ => fun _ => rfl
    | 82, _ => fun _ => rfl
    | 83, _ => fun _ => rfl
    | 84, _ => fun _ => rfl
    | 85, _ => fun _ => rfl
    | 86, _ => fun _ => rfl
    | 87, _ => fun _ => rfl
    | 88, _ => fun _ => rfl
    | 89, _ => fun _ => rfl
    | 90, _ => fun _ => rfl
    | 91, _ => fun _ => rfl
    | 92, _ => fun _ => rfl
    | 93, _ => fun _ => rfl
    | 94, _ => fun _ => rfl
    | n + 95, h => absurd h (by omega)
/-- What holds where a tree is not right. -/
def JD (B b : Nat) (w : World) (ok : Bool) (a : Act) (w' : World) : Prop := ∃ tt : Array Value, a = { tmps := tt, defers := [] } ∧ tt.size = 95 ∧ ok = false ∧ Kps B b w w' ∧ ∃ T', TxAt B b T' w'
set_option maxRecDepth 100000 in
set_option maxHeartbeats 4000000 in
theorem down_step {w0 : World} (hTb : Tabs w0) (hFm : FormsAt w0) {b c1 c2 : Nat} (hb0 : w0.heap.size ≤ b) (h1b : c1 ≠ b) (h2b : c2 ≠ b) (op : Int) (nm pr : List UInt8) (k : Int) (bb : Bool) (n : Int) (t : List UInt8) (ph : List Int) (ks : List Tr)
    (ih : ∀ y ∈ ks, DownOk w0 b c1 c2 y) : DownOk w0 b c1 c2 (.mk op nm pr k bb n t ph ks) := by
  intro place deep kv pv T w hp1 hp8 hd0 hd1 hfine hTA hPA hbel hc1 hc2 htx
  have hTA0 := hTA
  rw [TAt] at hTA
  obtain ⟨kp, kc, rfl, hL⟩ := hTA
  obtain ⟨pa, pc, rfl, hpa⟩ := hPA
  replace hpa : V2.PathAt w0 pa ph := hpa
  have eph : (Tr.mk op nm pr k bb n t ph ks).ph = ph := rfl
  rw [eph]
  clear eph
  rw [fineT] at hfine
  obtain ⟨hnl, hpl, hn, htl, hkl, hfl⟩ := hfine
  rw [okT, txT]
  unfold Tr.val
  dsimp only
  have hbX := below_new w (.cells #[.int .i64 op, .slice kp ks.length kc, .string (txt nm), .string (txt pr), .int .i64 k, .bool bb, .int .i64 n, .string (txt t), .slice pa ph.length pc] 39)
  have hxX := heap_alloc_new w (.cells #[.int .i64 op, .slice kp ks.length kc, .string (txt nm), .string (txt pr), .int .i64 k, .bool bb, .int .i64 n, .string (txt t), .slice pa ph.length pc] 39)
  have hW1 : Below w0.heap.size w0 (w.alloc (.cells #[.int .i64 op, .slice kp ks.length kc, .string (txt nm), .string (txt pr), .int .i64 k, .bool bb, .int .i64 n, .string (txt t), .slice pa ph.length pc] 39)) := hbel.trans (hbX.mono hbel.size)
  have hbt : b < w.heap.size := by
    obtain ⟨bs, _, h⟩ := htx
    rcases h with h | h <;> exact h.lt
  have hXb : w.heap.size ≠ b := by omega
  have hF := fun (_ : Unit) => formOf_any hFm op _ hW1
  replace hF : Hid _ := hF
  replace hbX : Hid _ := hbX
  replace hxX : Hid _ := hxX
  replace hW1 : Hid _ := hW1
  replace hTb : Hid _ := hTb
  replace hFm : Hid _ := hFm
  replace hbel : Hid _ := hbel
  replace hc1 : Hid _ := hc1
  replace hc2 : Hid _ := hc2
  replace htx : Hid _ := htx
  replace hL : Hid _ := hL
  replace hpa : Hid _ := hpa
  replace ih : Hid _ := ih
  replace hTA0 : Hid _ := hTA0
  generalize hOK : (selfB op nm pr k bb n t ph ks.length place deep && okK (fmOf op).pl (dpN op place deep) ks) = OK
  generalize hTX : T ++ (ahT op place ++ (ownT op nm pr k bb n t ++ (txK true (fmOf op).bt (fmOf op).pl ks ++ beT op place))) = TX
  replace hOK : Hid _ := hOK
  replace hTX : Hid _ := hTX
  go_enter Tryz.func65, Tryz.ntmps65
  go_wp2_with fail
  refine wp_scope_jumps 0 (JD w0.heap.size b w OK) (fun _ _ => 0) rfl ?_ ?_
  case refine_2 =>
    rintro a' w' ⟨tt, rfl, hs, hok, hk, hT'⟩
    obtain ⟨u, rfl⟩ := frame95 tt hs
    replace hk : Hid _ := hk
    replace hT' : Hid _ := hT'
    clear hs
    go_wp2_with fail
    simp only [Exit.jump]
    change bodyPost Tryz.prog Tryz.f65 _ _ _ _
    go_returns
    exact ⟨by rw [hok]; rfl, hk.out, fun h => absurd (hok.symm.trans h) (by decide), hT'.out⟩
  go_upto_region 2 with (have hh := hF.out (); go_at_call 66; (with_reducible refine Calls.mono hh ?_); clear hh; rintro e w1 ⟨fp, fc, rfl, hfp, hb1⟩)
  have hkX : Kps w0.heap.size b w w1 := (Kps.of hbX.out hbel.out.size).trans (Kps.of hb1 (Nat.le_trans hbel.out.size (by simp)))
  have hx1 : w1.heap[w.heap.size]? = some (.cells #[.int .i64 op, .slice kp ks.length kc, .string (txt nm), .string (txt pr), .int .i64 k, .bool bb, .int .i64 n, .string (txt t), .slice pa ph.length pc] 39) := (hb1.block _ (by simp)).trans hxX.out
  have hXl : w.heap.size < w1.heap.size := Nat.lt_of_lt_of_le (by simp) hb1.size
  have hbF := below_new w1 (.cells #[.int .i64 (fmOf op).lvl, .slice fp (fmOf op).pl.length fc, .string (txt (fmOf op).ah), .string (txt (fmOf op).bt), .string (txt (fmOf op).be), .bool (fmOf op).dp] 124)
  have hxF := heap_alloc_new w1 (.cells #[.int .i64 (fmOf op).lvl, .slice fp (fmOf op).pl.length fc, .string (txt (fmOf op).ah), .string (txt (fmOf op).bt), .string (txt (fmOf op).be), .bool (fmOf op).dp] 124)
  have hW := hkX.trans (Kps.of (b := b) hbF (Nat.le_trans hbel.out.size hkX.size))
  have hx2 := (hbF.block _ hXl).trans hx1
  have htW := TxAt.below (TxAt.below (TxAt.below htx.out hbX.out) hb1) hbF
  have hFb : w1.heap.size ≠ b := by omega
  have hXF : w.heap.size ≠ w1.heap.size := by omega
  clear hb1 hbX hxX hW1 hkX hx1 hbF htx hF
  generalize (w1.alloc (.cells #[.int .i64 (fmOf op).lvl, .slice fp (fmOf op).pl.length fc, .string (txt (fmOf op).ah), .string (txt (fmOf op).bt), .string (txt (fmOf op).be), .bool (fmOf op).dp] 124)) = W at *
  generalize w1.heap.size = F at *
  have f2 : W.cell? ⟨F, 2, none⟩ = some (.string (txt (fmOf op).ah)) := box_cell hxF 2
  have f4 : W.cell? ⟨F, 4, none⟩ = some (.string (txt (fmOf op).be)) := box_cell hxF 4
  replace hW : Hid _ := hW
  replace htW : Hid _ := htW
  replace hx2 : Hid _ := hx2
  replace hxF : Hid _ := hxF
  replace hfp : Hid _ := hfp
  go_quiet (fail)
  go_upto_region 3 with fail
  have hdr : Below W.heap.size W (W.drewN nq) := below_drewN (Below.refl _ _) _
  replace hxF := (hdr.block _ (Array.getElem?_eq_some_iff.1 hxF.out).1).trans hxF.out
  replace hx2 := (hdr.block _ (Array.getElem?_eq_some_iff.1 hx2.out).1).trans hx2.out
  replace htW := TxAt.below htW.out hdr
  replace hW := hW.out.trans (Kps.of (b := b) hdr (Nat.le_trans hbel.out.size hW.out.size))
  clear f2 f4 hdr
  generalize W.drewN nq = W2 at *
  have f0 : W2.cell? ⟨F, 0, none⟩ = some (.int .i64 (fmOf op).lvl) := box_cell hxF 0
  have f5 : W2.cell? ⟨F, 5, none⟩ = some (.bool (fmOf op).dp) := box_cell hxF 5
  replace hW : Hid _ := hW
  replace htW : Hid _ := htW
  replace hx2 : Hid _ := hx2
  replace hxF : Hid _ := hxF
  have hah : ∀ Wx, (Op.stringOp .add (⟨#[40]⟩ : ByteArray) (txt (fmOf op).ah)).run Tryz.prog Wx = .ok (.string (txt ([40] ++ (fmOf op).ah))) Wx := fun Wx => by
    rw [← txt_app]; apply run_string_add_sum; rw [txt_size]; show 1 + _ ≤ _; have := (form_len op).1; omega
  have hbe : ∀ Wx, (Op.stringOp .add (txt (fmOf op).be) (⟨#[41]⟩ : ByteArray)).run Tryz.prog Wx = .ok (.string (txt ((fmOf op).be ++ [41]))) Wx := fun Wx => by
    rw [← txt_app]; apply run_string_add_sum; rw [txt_size]; show _ + 1 ≤ _; have := (form_len op).2.1; omega
  obtain ⟨d1, hD1⟩ : ∃ z, deep + (if brB op place then 1 else 0) = z := ⟨_, rfl⟩
  obtain ⟨d2, hD2⟩ : ∃ z, d1 + (if (fmOf op).dp then 1 else 0) = z := ⟨_, rfl⟩
  have hDN : dpN op place deep = d2 := by rw [← hD2, ← hD1]; rfl
  have d1a : 0 ≤ d1 := by rw [← hD1]; split <;> omega
  have d1b : d1 ≤ 51 := by rw [← hD1]; split <;> omega
  have d2a : 0 ≤ d2 := by rw [← hD2]; split <;> omega
  have d2b : d2 ≤ 52 := by rw [← hD2]; split <;> omega
  replace hD1 : Hid _ := hD1
  replace hD2 : Hid _ := hD2
  replace hDN : Hid _ := hDN
  go_upto_if 28 with fail
  go_cut [2, 11, 12] (fun v2 v11 v12 wx => v2 = .int .i64 d1 ∧ v11 = .string (txt (ahT op place)) ∧ v12 = .string (txt (beT op place)) ∧ W2 = wx)
  case first =>
    go_wp2_with fail
    all_goals go_meet
    all_goals
      by_cases hl : (fmOf op).lvl < place
      · have hbr : brB op place = true := by unfold brB; simpa using hl
        have ea : ahT op place = [40] ++ (fmOf op).ah := by unfold ahT; rw [hbr]; rfl
        have eb : beT op place = (fmOf op).be ++ [41] := by unfold beT; rw [hbr]; rfl
        first
          | (exfalso; omega)
          | exact ⟨by rw [← hD1.out, hbr]; simp, by rw [ea]; rfl, by rw [eb], rfl⟩
      · have hbr : brB op place = false := by unfold brB; simpa using hl
        have ea : ahT op place = (fmOf op).ah := by unfold ahT; rw [hbr]; rfl
        have eb : beT op place = (fmOf op).be := by unfold beT; rw [hbr]; rfl
        first
          | (exfalso; omega)
          | exact ⟨by rw [← hD1.out, hbr]; simp, by rw [ea], by rw [eb], rfl⟩
  case rest =>
    obtain ⟨rfl, rfl, rfl, rfl⟩ := hcut
    clear hah hbe f0
    go_upto_if 36 with fail
    go_cut [2] (fun v2 wx => v2 = .int .i64 d2 ∧ W2 = wx)
    case first =>
      go_wp2_with fail
      all_goals go_meet
      all_goals
        cases hdp : (fmOf op).dp
        · first
            | (exfalso; simp_all; done)
            | exact ⟨by rw [← hD2.out, hdp]; simp, rfl⟩
        · first
            | (exfalso; simp_all; done)
            | exact ⟨by rw [← hD2.out, hdp]; simp, rfl⟩
    case rest =>
      obtain ⟨rfl, rfl⟩ := hcut
      go_upto_region 8 with fail
      have hWb := hbel.out.trans hW.out.bel
      have x0 : W2.cell? ⟨w.heap.size, 0, none⟩ = some (.int .i64 op) := box_cell hx2.out 0
      have x1 : W2.cell? ⟨w.heap.size, 1, none⟩ = some (.slice kp ks.length kc) := box_cell hx2.out 1
      have x2 : W2.cell? ⟨w.heap.size, 2, none⟩ = some (.string (txt nm)) := box_cell hx2.out 2
      have x3 : W2.cell? ⟨w.heap.size, 3, none⟩ = some (.string (txt pr)) := box_cell hx2.out 3
      have x4 : W2.cell? ⟨w.heap.size, 4, none⟩ = some (.int .i64 k) := box_cell hx2.out 4
      have x5 : W2.cell? ⟨w.heap.size, 5, none⟩ = some (.bool bb) := box_cell hx2.out 5
      have x6 : W2.cell? ⟨w.heap.size, 6, none⟩ = some (.int .i64 n) := box_cell hx2.out 6
      have x7 : W2.cell? ⟨w.heap.size, 7, none⟩ = some (.string (txt t)) := box_cell hx2.out 7
      have x8 : W2.cell? ⟨w.heap.size, 8, none⟩ = some (.slice pa ph.length pc) := box_cell hx2.out 8
      have f1 : W2.cell? ⟨F, 1, none⟩ = some (.slice fp (fmOf op).pl.length fc) := box_cell hxF.out 1
      have hTW := hTb.out.below hWb
      have hpW := V2.PathAt.below hpa.out hWb
      have hFd := fun (_ : Unit) => fields_any op nm pr k bb n t pa ph pc kp ks.length kc W2 hTW hpW hnl hpl htl
      replace hFd : Hid _ := hFd
      replace hTW : Hid _ := hTW
      replace hpW : Hid _ := hpW
      replace hWb : Hid _ := hWb
      obtain ⟨SB, hSB⟩ : ∃ z, selfB op nm pr k bb n t ph ks.length place deep = z := ⟨_, rfl⟩
      rw [hSB] at hOK
      replace hSB : Hid _ := hSB
      clear f5
      go_cut [10, 58] (fun _ v58 wx => v58 = .bool (!SB) ∧ Below W2.heap.size W2 wx)
      case first =>
        have hsb := hSB.out
        unfold selfB at hsb
        rw [hDN.out] at hsb
        cases hi : isOp op
        · rw [hi, Bool.false_and, Bool.false_and, Bool.false_and] at hsb
          subst hsb
          go_wp2_with fail
          go_meet
          exact ⟨rfl, Below.refl _ _⟩
        · rw [hi, Bool.true_and] at hsb
          by_cases h50 : d2 ≤ 50
          · have h50b : decide (d2 > 50) = false := by simp; omega
            have h50c : decide ((50 : Int) < d2) = false := by simp; omega
            rw [show decide (d2 ≤ 50) = true by simpa using h50, Bool.true_and] at hsb
            by_cases hlen : ks.length = (fmOf op).pl.length
            · have hl2 : ((ks.length : Int) != ((fmOf op).pl.length : Int)) = false := by rw [hlen]; simp
              rw [show decide (ks.length = (fmOf op).pl.length) = true by simpa using hlen, Bool.true_and] at hsb
              rw [hsb] at hFd
              clear hlen
              go_wp2_with (have hh := hFd.out (); go_at_call 67; (with_reducible refine Calls.mono hh ?_); clear hh; rintro e w3 ⟨rfl, hb3⟩)
              all_goals go_meet
              all_goals exact ⟨rfl, hb3⟩
            · have hl2 : ((ks.length : Int) != ((fmOf op).pl.length : Int)) = true := by simp; omega
              rw [show decide (ks.length = (fmOf op).pl.length) = false by simpa using hlen, Bool.false_and] at hsb
              subst hsb
              go_wp2_with fail
              go_meet
              exact ⟨rfl, Below.refl _ _⟩
          · have h50b : decide (d2 > 50) = true := by simp; omega
            have h50c : decide ((50 : Int) < d2) = true := by simp; omega
            rw [show decide (d2 ≤ 50) = false by simpa using h50, Bool.false_and, Bool.false_and] at hsb
            subst hsb
            go_wp2_with fail
            go_meet
            exact ⟨rfl, Below.refl _ _⟩
      case rest =>
        obtain ⟨rfl, hb3⟩ := hcut
        have hBw : w0.heap.size ≤ W2.heap.size := hWb.out.size
        have hK3 := hW.out.trans (Kps.of (b := b) hb3 hBw)
        have htW3 := TxAt.below htW.out hb3
        have hx3 := (hb3.block _ (Array.getElem?_eq_some_iff.1 hx2.out).1).trans hx2.out
        have hF3 := (hb3.block _ (Array.getElem?_eq_some_iff.1 hxF.out).1).trans hxF.out
        have hc13 := hK3.box hc1.out (by decide) h1b
        have hc23 := hK3.box hc2.out (by decide) h2b
        have hWb3 := hWb.out.trans (hb3.mono hBw)
        clear x0 x1 x2 x3 x4 x5 x6 x7 x8 f1 hx2 hxF hTW hpW hWb hFd htW hW hb3 hc1 hc2
        replace hK3 : Hid _ := hK3
        replace htW3 : Hid _ := htW3
        replace hx3 : Hid _ := hx3
        replace hF3 : Hid _ := hF3
        replace hc13 : Hid _ := hc13
        replace hc23 : Hid _ := hc23
        replace hWb3 : Hid _ := hWb3
        cases SB
        · have hno : OK = false := by simpa using hOK.out.symm
          go_wp2_with fail
          go_step3
          exact ⟨rfl, _, rfl, rfl, hno, hK3.out, T, htW3.out⟩
        · have hfd : fldB op nm pr k bb n t ph = true := by
            have h := hSB.out
            unfold selfB at h
            simp only [Bool.and_eq_true] at h
            exact h.2
          have hkl2 : ks.length = (fmOf op).pl.length := by
            have h := hSB.out
            unfold selfB at h
            simp only [Bool.and_eq_true, decide_eq_true_eq] at h
            exact h.1.2
          have hd50 : d2 ≤ 50 := by
            have h := hSB.out
            unfold selfB at h
            rw [hDN.out] at h
            simp only [Bool.and_eq_true, decide_eq_true_eq] at h
            exact h.1.1.2
          have hok := hOK.out
          rw [Bool.true_and, hDN.out] at hok
          clear hOK
          have hnm := fld_len hfd
          have hol := own_len hfd hn
          have hk0 := fld_kind hfd
          have hal := (form_len op)
          have hah2 : (ahT op place).length ≤ 200 := by unfold ahT; split <;> first | omega | (simp; omega)
          have hbe2 : (beT op place).length ≤ 200 := by unfold beT; split <;> first | omega | (simp; omega)
          have hO := fun (W' : World) (h : Below wc.heap.size wc W') => own_any op nm pr k bb n t pa ph pc kp ks.length kc W' ((hTb.out.below hWb3.out).below h) ((V2.PathAt.below hpa.out hWb3.out).below h) htl hk0 hn hfd (by omega) (by omega)
          have hBc : w0.heap.size ≤ wc.heap.size := hWb3.out.size
          have hbc : b < wc.heap.size := by have := hK3.out.size; omega
          replace hok : Hid _ := hok
          replace hkl2 : Hid _ := hkl2
          replace hnm : Hid _ := hnm
          replace hol : Hid _ := hol
          replace hah2 : Hid _ := hah2
          replace hbe2 : Hid _ := hbe2
          replace hO : Hid _ := hO
          replace hal : Hid _ := hal
          clear hSB hfd hk0
          have hOd := fun (_ : Unit) => hO.out wc.drew (Below.drew (Below.refl _ _))
          replace hOd : Hid _ := hOd
          go_upto_region 9 with fail
          have a1 : wc.cell? ⟨c1, 0, none⟩ = some (.pointer (some ⟨b, 0, none⟩)) := box_cell hc13.out 0
          have a1d : wc.drew.cell? ⟨c1, 0, none⟩ = some (.pointer (some ⟨b, 0, none⟩)) := a1
          have x0 : wc.cell? ⟨w.heap.size, 0, none⟩ = some (.int .i64 op) := box_cell hx3.out 0
          have x1 : wc.cell? ⟨w.heap.size, 1, none⟩ = some (.slice kp ks.length kc) := box_cell hx3.out 1
          have x2 : wc.cell? ⟨w.heap.size, 2, none⟩ = some (.string (txt nm)) := box_cell hx3.out 2
          have x3 : wc.cell? ⟨w.heap.size, 3, none⟩ = some (.string (txt pr)) := box_cell hx3.out 3
          have x4 : wc.cell? ⟨w.heap.size, 4, none⟩ = some (.int .i64 k) := box_cell hx3.out 4
          have x5 : wc.cell? ⟨w.heap.size, 5, none⟩ = some (.bool bb) := box_cell hx3.out 5
          have x6 : wc.cell? ⟨w.heap.size, 6, none⟩ = some (.int .i64 n) := box_cell hx3.out 6
          have x7 : wc.cell? ⟨w.heap.size, 7, none⟩ = some (.string (txt t)) := box_cell hx3.out 7
          have x8 : wc.cell? ⟨w.heap.size, 8, none⟩ = some (.slice pa ph.length pc) := box_cell hx3.out 8
          go_cut [59] (fun _ wx => Kps w0.heap.size b wc wx ∧ TxAt w0.heap.size b (T ++ (ahT op place ++ ownT op nm pr k bb n t)) wx)
          case first =>
            go_region_with ((first
              | (have hh := says_two (TxAt.below htW3.out hb4) (Nat.le_trans hBc hb4.size) (Nat.lt_of_lt_of_le hbc hb4.size) hah2.out hol.out; go_at_call 35; (refine Calls.mono hh ?_); clear hh; rintro e w5 ⟨rfl, ht5, hk5⟩)
              | (have hh := hOd.out (); go_at_call 68; (refine Calls.mono hh ?_); clear hh; rintro e w4 ⟨rfl, hb4⟩; replace hb4 : Below wc.heap.size wc w4 := Below.trans (Below.drew (Below.refl wc.heap.size wc)) hb4; have a4 : w4.cell? ⟨c1, 0, none⟩ = some (.pointer (some ⟨b, 0, none⟩)) := cbelow hb4 a1; have a5 : (w4.alloc (.cells #[.string (txt (ahT op place)), .string (txt (ownT op nm pr k bb n t))] 9)).cell? ⟨c1, 0, none⟩ = some (.pointer (some ⟨b, 0, none⟩)) := cbelow (below_new _ _) a4)))
            all_goals go_wp2_with fail
            all_goals go_meet
            all_goals exact ⟨(Kps.of hb4 hBc).trans hk5, ht5⟩
          case rest =>
            obtain ⟨hk4, ht4⟩ := hcut
            have hx4 := hk4.box hx3.out (by decide) hXb
            have hF4 := hk4.box hF3.out (by decide) hFb
            have hc14 := hk4.box hc13.out (by decide) h1b
            have hc24 := hk4.box hc23.out (by decide) h2b
            have hwc := hWb3.out.trans hk4.bel
            have hK4 := hK3.out.trans hk4
            have hB4 : w0.heap.size ≤ wc.heap.size := hwc.size
            have hb4 : b < wc.heap.size := Nat.lt_of_lt_of_le hbc hk4.size
            have hT4 : (T ++ (ahT op place ++ ownT op nm pr k bb n t)) ++ (txK true (fmOf op).bt (fmOf op).pl ks ++ beT op place) = TX := by rw [← hTX.out]; simp [List.append_assoc]
            clear a1 a1d x0 x1 x2 x3 x4 x5 x6 x7 x8 hx3 hF3 hc13 hc23 hWb3 hK3 hk4 hO hOd hTX hBc hbc htW3
            have x1 : wc.cell? ⟨w.heap.size, 1, none⟩ = some (.slice kp ks.length kc) := box_cell hx4 1
            generalize T ++ (ahT op place ++ ownT op nm pr k bb n t) = T4 at *
            replace hx4 : Hid _ := hx4
            replace hF4 : Hid _ := hF4
            replace hc14 : Hid _ := hc14
            replace hc24 : Hid _ := hc24
            replace hwc : Hid _ := hwc
            replace hK4 : Hid _ := hK4
            replace ht4 : Hid _ := ht4
            replace hT4 : Hid _ := hT4
            go_wp2_with fail
            have hks2 : ks.length ≤ 2 := by have h1 := hkl2.out; have h2 := (form_len op).2.2.2; omega
            go_loopw [68] (fun v wr => ∃ (i : Nat) (T' : List UInt8), i ≤ ks.length ∧ v = .int .i64 i ∧ Kps w0.heap.size b wc wr ∧ TxAt w0.heap.size b T' wr ∧ okK ((fmOf op).pl.drop i) d2 (ks.drop i) = OK ∧ T' ++ (txK (decide (i = 0)) (fmOf op).bt ((fmOf op).pl.drop i) (ks.drop i) ++ beT op place) = TX) (fun v _ => ks.length - (intOf v).toNat)
            case atStart => exact ⟨0, T4, by omega, rfl, Kps.refl _ _ _, ht4.out, hok.out, hT4.out⟩
            case round =>
              obtain ⟨i, T', hi, rfl, hkr, htr, hor, hTr⟩ := hrel
              by_cases hlt : i < ks.length
              · obtain ⟨x, hx⟩ : ∃ x, ks[i]? = some x := ⟨ks[i], List.getElem?_eq_getElem hlt⟩
                have hmem : x ∈ ks := List.mem_of_getElem? hx
                have hfx := fineL.get ks i x hfl hx
                have hpi : i < (fmOf op).pl.length := by have := hkl2.out; omega
                obtain ⟨fg, fo, rfl, hpc⟩ := V2.PathAt.num hfp.out i hpi
                have hpb := form_pl op i hpi
                have hdk : ks.drop i = x :: ks.drop (i + 1) := by
                  rw [List.drop_eq_getElem_cons hlt]
                  congr 1
                  rw [List.getElem?_eq_getElem hlt] at hx
                  exact Option.some.inj hx
                have hdp : (fmOf op).pl.drop i = (fmOf op).pl.getD i 0 :: (fmOf op).pl.drop (i + 1) := by
                  rw [List.getD_eq_getElem?_getD, List.getElem?_eq_getElem hpi, Option.getD_some, List.drop_eq_getElem_cons hpi]
                rw [hdk, hdp, okK] at hor
                rw [hdk, hdp, txK] at hTr
                rw [List.headD_cons, List.tail_cons] at hor hTr
                obtain ⟨g, o, rfl, hLA⟩ := (hL.out).resolve_left (fun e => by rw [e] at hlt; simp at hlt)
                have hihx := ih.out x hmem
                obtain ⟨op2, nm2, pr2, k2, bb2, n2, t2, ph2, kk2⟩ := x
                obtain ⟨kv2, pv2, hnine, hPA2, hTA2⟩ := LAt.get ks o i op2 nm2 pr2 k2 bb2 n2 t2 ph2 kk2 hLA hx
                have hTA2' := hTA2
                rw [TAt] at hTA2'
                obtain ⟨kp2, kc2, rfl, _⟩ := hTA2'
                have hPA2' := hPA2
                obtain ⟨pa2, pc2, rfl, _⟩ := hPA2'
                have hwr := hwc.out.trans hkr.bel
                have hBr : w0.heap.size ≤ wr.heap.size := hwr.size
                have hbr : b < wr.heap.size := Nat.lt_of_lt_of_le hb4 hkr.size
                have hFr := hkr.box hF4.out (by decide) hFb
                have hc1r := hkr.box hc14.out (by decide) h1b
                have hc2r := hkr.box hc24.out (by decide) h2b
                obtain ⟨y0, y1, y2, y3, y4, y5, y6, y7, y8⟩ := Nine.below hnine hwr
                have hpc0 := hpc
                replace hpc0 : Hid _ := hpc0
                replace hpc := cbelow hwr hpc
                have hbK := below_new wr (.cells #[.int .i64 op2, .slice kp2 kk2.length kc2, .string (txt nm2), .string (txt pr2), .int .i64 k2, .bool bb2, .int .i64 n2, .string (txt t2), .slice pa2 ph2.length pc2] 39)
                have hxK := heap_alloc_new wr (.cells #[.int .i64 op2, .slice kp2 kk2.length kc2, .string (txt nm2), .string (txt pr2), .int .i64 k2, .bool bb2, .int .i64 n2, .string (txt t2), .slice pa2 ph2.length pc2] 39)
                have hFr2 := (hbK.block _ (Array.getElem?_eq_some_iff.1 hFr).1).trans hFr
                have hc1r2 := (hbK.block _ (Array.getElem?_eq_some_iff.1 hc1r).1).trans hc1r
                have hc2r2 := (hbK.block _ (Array.getElem?_eq_some_iff.1 hc2r).1).trans hc2r
                have htK := TxAt.below htr hbK
                have hpc2 := cbelow hbK hpc
                have hwK := hwr.trans (hbK.mono hBr)
                have hkK := hkr.trans (Kps.of (b := b) hbK hBr)
                have hKb : wr.heap.size ≠ b := by omega
                generalize hKn : wr.heap.size = KK at *
                have hbKK : b < (wr.alloc (.cells #[.int .i64 op2, .slice kp2 kk2.length kc2, .string (txt nm2), .string (txt pr2), .int .i64 k2, .bool bb2, .int .i64 n2, .string (txt t2), .slice pa2 ph2.length pc2] 39)).heap.size := Nat.lt_of_lt_of_le hbr (by rw [← hKn]; simp)
                clear hnine hkr htr hwr hFr hc1r hc2r hbK hpc hLA hdk hdp hfl
                replace hihx : Hid _ := hihx
                replace hxK : Hid _ := hxK
                replace hFr2 : Hid _ := hFr2
                replace hc1r2 : Hid _ := hc1r2
                replace hc2r2 : Hid _ := hc2r2
                replace htK : Hid _ := htK
                replace hpc2 : Hid _ := hpc2
                replace hwK : Hid _ := hwK
                replace hkK : Hid _ := hkK
                replace hfx : Hid _ := hfx
                replace hTA2 : Hid _ := hTA2
                replace hPA2 : Hid _ := hPA2
                replace hor : Hid _ := hor
                replace hTr : Hid _ := hTr
                go_upto_if 74 with fail
                generalize (wr.alloc (.cells #[.int .i64 op2, .slice kp2 kk2.length kc2, .string (txt nm2), .string (txt pr2), .int .i64 k2, .bool bb2, .int .i64 n2, .string (txt t2), .slice pa2 ph2.length pc2] 39)) = Wk at *
                have a1 : Wk.cell? ⟨c1, 0, none⟩ = some (.pointer (some ⟨b, 0, none⟩)) := box_cell hc1r2.out 0
                have f3 : Wk.cell? ⟨F, 3, none⟩ = some (.string (txt (fmOf op).bt)) := box_cell hFr2.out 3
                have hBk : w0.heap.size ≤ Wk.heap.size := hwK.out.size
                have hbt2 : (fmOf op).bt.length ≤ 200 := by have := hal.out.2.2.1; omega
                obtain ⟨sep, hsep⟩ : ∃ z, (if decide (i = 0) = true then [] else (fmOf op).bt) = z := ⟨_, rfl⟩
                have hTr2 := hTr.out
                rw [hsep] at hTr2
                replace hTr2 : Hid _ := hTr2
                clear hTr
                have hSay := fun (_ : Unit) => says_one (a := (fmOf op).bt) htK.out hBk hbKK hbt2
                replace hSay : Hid _ := hSay
                go_cut [75] (fun _ wx => Kps w0.heap.size b Wk wx ∧ TxAt w0.heap.size b (T' ++ sep) wx)
                case first =>
                  go_wp2_with (have hh := hSay.out (); go_at_call 35; (refine Calls.mono hh ?_); clear hh; rintro e w5 ⟨rfl, ht5, hk5⟩)
                  all_goals go_meet
                  all_goals
                    by_cases h0 : i = 0
                    · have es : sep = [] := by rw [← hsep, h0]; rfl
                      first
                        | (exfalso; omega)
                        | exact ⟨Kps.refl _ _ _, by rw [es, List.append_nil]; exact htK.out⟩
                    · have es : sep = (fmOf op).bt := by rw [← hsep, if_neg (by simpa using h0)]
                      first
                        | (exfalso; omega)
                        | exact ⟨hk5, by rw [es]; exact ht5⟩
                case rest =>
                  obtain ⟨hk5, ht5⟩ := hcut
                  have hK5 := hk5.box hxK.out (by decide) hKb
                  have hF5 := hk5.box hFr2.out (by decide) hFb
                  have hc15 := hk5.box hc1r2.out (by decide) h1b
                  have hc25 := hk5.box hc2r2.out (by decide) h2b
                  have hw5 := hwK.out.trans hk5.bel
                  have hkk5 := hkK.out.trans hk5
                  clear a1 f3 hSay hxK hFr2 hc1r2 hc2r2 hwK hkK htK hk5 hbKK hBk hpc2
                  have hdr : Below wc.heap.size wc wc.drew := Below.drew (Below.refl _ _)
                  have hpc5 := cbelow hw5 hpc0.out
                  generalize hPV : (fmOf op).pl.getD i 0 = PV at *
                  have hD := fun (_ : Unit) => hihx.out PV d2 _ _ (T' ++ sep) wc.drew hpb.1 hpb.2 d2a hd50 hfx.out hTA2.out hPA2.out (Below.drew hw5) hc15 hc25 (TxAt.below ht5 hdr)
                  unfold Tr.val at hD
                  dsimp only at hD
                  have hbW : w0.heap.size ≤ wc.heap.size := hw5.size
                  have sD : wc.drew.cell? ⟨c2, 0, none⟩ = some (.func (.func 65) #[] #[.pointer (some ⟨c1, 0, none⟩), .pointer (some ⟨c2, 0, none⟩)]) ∧ wc.drew.cell? ⟨KK, 0, none⟩ = some (.int .i64 op2) ∧ wc.drew.cell? ⟨KK, 1, none⟩ = some (.slice kp2 kk2.length kc2) ∧ wc.drew.cell? ⟨KK, 2, none⟩ = some (.string (txt nm2)) ∧ wc.drew.cell? ⟨KK, 3, none⟩ = some (.string (txt pr2)) ∧ wc.drew.cell? ⟨KK, 4, none⟩ = some (.int .i64 k2) ∧ wc.drew.cell? ⟨KK, 5, none⟩ = some (.bool bb2) ∧ wc.drew.cell? ⟨KK, 6, none⟩ = some (.int .i64 n2) ∧ wc.drew.cell? ⟨KK, 7, none⟩ = some (.string (txt t2)) ∧ wc.drew.cell? ⟨KK, 8, none⟩ = some (.slice pa2 ph2.length pc2) ∧ wc.drew.cell? ⟨F, 1, none⟩ = some (.slice (some ⟨fg, fo, none⟩) (fmOf op).pl.length fc) ∧ wc.drew.cell? ⟨fg, fo + i, none⟩ = some (.int .i64 PV) := ⟨box_cell hc25 0, box_cell hK5 0, box_cell hK5 1, box_cell hK5 2, box_cell hK5 3, box_cell hK5 4, box_cell hK5 5, box_cell hK5 6, box_cell hK5 7, box_cell hK5 8, box_cell hF5 1, hpc5⟩
                  obtain ⟨ok2, hok2⟩ : ∃ z, okT PV d2 (.mk op2 nm2 pr2 k2 bb2 n2 t2 ph2 kk2) = z := ⟨_, rfl⟩
                  rw [hok2] at hD
                  have hor2 := hor.out
                  rw [hok2] at hor2
                  replace hor2 : Hid _ := hor2
                  replace hD : Hid _ := hD
                  replace sD : Hid _ := sD
                  obtain ⟨z0, z1, z2, z3, z4, z5, z6, z7, z8, z9, z10, z11⟩ := sD.out
                  clear hor hok2
                  go_upto_region 15 with fail
                  go_region_held3 (fun w' => w'.cell? ⟨c2, 0, none⟩ = some (.func (.func 65) #[] #[.pointer (some ⟨c1, 0, none⟩), .pointer (some ⟨c2, 0, none⟩)]) ∧ w'.cell? ⟨KK, 0, none⟩ = some (.int .i64 op2) ∧ w'.cell? ⟨KK, 1, none⟩ = some (.slice kp2 kk2.length kc2) ∧ w'.cell? ⟨KK, 2, none⟩ = some (.string (txt nm2)) ∧ w'.cell? ⟨KK, 3, none⟩ = some (.string (txt pr2)) ∧ w'.cell? ⟨KK, 4, none⟩ = some (.int .i64 k2) ∧ w'.cell? ⟨KK, 5, none⟩ = some (.bool bb2) ∧ w'.cell? ⟨KK, 6, none⟩ = some (.int .i64 n2) ∧ w'.cell? ⟨KK, 7, none⟩ = some (.string (txt t2)) ∧ w'.cell? ⟨KK, 8, none⟩ = some (.slice pa2 ph2.length pc2) ∧ w'.cell? ⟨F, 1, none⟩ = some (.slice (some ⟨fg, fo, none⟩) (fmOf op).pl.length fc) ∧ w'.cell? ⟨fg, fo + i, none⟩ = some (.int .i64 PV))
                    (first | exact sD.out | exact s6 | go_keep | fail)
                    ((have hh := hD.out (); go_at_call 65; (refine Calls.mono hh ?_); clear hh; rintro e w6 ⟨rfl, hk6, hy6, hT6⟩; have s6 : w6.cell? ⟨c2, 0, none⟩ = some (.func (.func 65) #[] #[.pointer (some ⟨c1, 0, none⟩), .pointer (some ⟨c2, 0, none⟩)]) ∧ w6.cell? ⟨KK, 0, none⟩ = some (.int .i64 op2) ∧ w6.cell? ⟨KK, 1, none⟩ = some (.slice kp2 kk2.length kc2) ∧ w6.cell? ⟨KK, 2, none⟩ = some (.string (txt nm2)) ∧ w6.cell? ⟨KK, 3, none⟩ = some (.string (txt pr2)) ∧ w6.cell? ⟨KK, 4, none⟩ = some (.int .i64 k2) ∧ w6.cell? ⟨KK, 5, none⟩ = some (.bool bb2) ∧ w6.cell? ⟨KK, 6, none⟩ = some (.int .i64 n2) ∧ w6.cell? ⟨KK, 7, none⟩ = some (.string (txt t2)) ∧ w6.cell? ⟨KK, 8, none⟩ = some (.slice pa2 ph2.length pc2) ∧ w6.cell? ⟨F, 1, none⟩ = some (.slice (some ⟨fg, fo, none⟩) (fmOf op).pl.length fc) ∧ w6.cell? ⟨fg, fo + i, none⟩ = some (.int .i64 PV) := ⟨box_cell (hk6.box hc25 (by decide) h2b) 0, box_cell (hk6.box hK5 (by decide) hKb) 0, box_cell (hk6.box hK5 (by decide) hKb) 1, box_cell (hk6.box hK5 (by decide) hKb) 2, box_cell (hk6.box hK5 (by decide) hKb) 3, box_cell (hk6.box hK5 (by decide) hKb) 4, box_cell (hk6.box hK5 (by decide) hKb) 5, box_cell (hk6.box hK5 (by decide) hKb) 6, box_cell (hk6.box hK5 (by decide) hKb) 7, box_cell (hk6.box hK5 (by decide) hKb) 8, box_cell (hk6.box hF5 (by decide) hFb) 1, (cbelow ((Below.drew hw5).trans hk6.bel) hpc0.out)⟩))
                  clear hD z0 z1 z2 z3 z4 z5 z6 z7 z8 z9 z10 z11 sD hihx
                  have hk7 := (hkk5.trans (Kps.of (b := b) hdr hbW)).trans hk6
                  have hk8 := hK4.out.trans hk7
                  replace hk7 : Hid _ := hk7
                  replace hk8 : Hid _ := hk8
                  replace hy6 : Hid _ := hy6
                  replace hT6 : Hid _ := hT6
                  clear hdr hk6 s6 ht5 hK5 hF5 hc15 hc25 hw5 hkk5 hpc5
                  cases ok2
                  · have hno : OK = false := by simpa using hor2.out.symm
                    obtain ⟨T9, hT9⟩ := hT6.out
                    go_wp2_with fail
                    all_goals go_step3
                    all_goals exact ⟨rfl, _, rfl, rfl, hno, hk8.out, T9, hT9⟩
                  · have hor3 := hor2.out
                    rw [Bool.true_and] at hor3
                    have hy7 := hy6.out rfl
                    have hTr3 : (T' ++ sep ++ txT PV (.mk op2 nm2 pr2 k2 bb2 n2 t2 ph2 kk2)) ++ (txK (decide (i + 1 = 0)) (fmOf op).bt ((fmOf op).pl.drop (i + 1)) (ks.drop (i + 1)) ++ beT op place) = TX := by
                      rw [show decide (i + 1 = 0) = false by simp, ← hTr2.out]
                      simp [List.append_assoc]
                    replace hor3 : Hid _ := hor3
                    replace hy7 : Hid _ := hy7
                    replace hTr3 : Hid _ := hTr3
                    clear hor2 hy6 hT6 hTr2
                    go_wp2_with fail
                    all_goals exact ⟨⟨i + 1, _, by omega, rfl, hk7.out, hy7.out, hor3.out, hTr3.out⟩, by show ks.length - ((i : Int) + 1).toNat < ks.length - (i : Int).toNat; omega⟩
              · have hi2 : i = ks.length := by omega
                have hpl2 : (fmOf op).pl.drop i = [] := List.drop_eq_nil_of_le (by have := hkl2.out; omega)
                have hkl3 : ks.drop i = [] := List.drop_eq_nil_of_le (by omega)
                rw [hkl3, okK] at hor
                rw [hkl3, txK, List.nil_append] at hTr
                have hc1r := hkr.box hc14.out (by decide) h1b
                have a1 : wr.cell? ⟨c1, 0, none⟩ = some (.pointer (some ⟨b, 0, none⟩)) := box_cell hc1r 0
                have hSay := fun (_ : Unit) => says_one (a := beT op place) htr (Nat.le_trans hB4 hkr.size) (Nat.lt_of_lt_of_le hb4 hkr.size) hbe2.out
                rw [hTr] at hSay
                have hk8 := hK4.out.trans hkr
                replace hSay : Hid _ := hSay
                replace hk8 : Hid _ := hk8
                replace hor : Hid _ := hor
                clear hTr htr hkr hpl2 hkl3 hc1r
                go_wp2_with (have hh := hSay.out (); go_at_call 35; (refine Calls.mono hh ?_); clear hh; rintro e w5 ⟨rfl, ht5, hk5⟩)
                simp only [Exit.jump]
                change bodyPost Tryz.prog Tryz.f65 _ _ _ _
                go_returns
                exact ⟨by rw [← hor.out]; rfl, hk8.out.trans hk5, fun _ => ht5, TX, ht5⟩
end Go.Proofs.YtkcnpbckmdgfnaaGreatDoor
