/-
  PrintExpr of any expression.
-/
import Derived.Test.YtkcnpbckmdgfnaaGreatDoorDwn
import Derived.Test.YtkcnpbckmdgfnaaGreatDoorExz
import Derived.Laws.EntriesVeiled
namespace Go.Proofs.YtkcnpbckmdgfnaaGreatDoor
open Go.ChangeShapes Go.WideShapes Go.ChangeAt Go.RowKit
set_option linter.unusedSimpArgs false
set_option linter.unusedVariables false

theorem put1 {w : World} {R : Nat} {T : TypeId} {u : Value} (h : w.heap[R]? = some (.cells #[u] T (0, 0))) (v : Value) : (w.setCell ⟨R, 0, none⟩ v).heap[R]? = some (.cells #[v] T (0, 0)) := by
  simp [World.setCell, Array.getElem?_modify, h]
theorem down_any {w0 : World} (hTb : Tabs w0) (hFm : FormsAt w0) {b c1 c2 : Nat} (hb0 : w0.heap.size ≤ b) (h1b : c1 ≠ b) (h2b : c2 ≠ b) (x : Tr) : DownOk w0 b c1 c2 x :=
  Tr.ind (fun op nm pr k bb n t ph ks ih => down_step hTb hFm hb0 h1b h2b op nm pr k bb n t ph ks ih) x
set_option maxRecDepth 100000 in
set_option maxHeartbeats 2000000 in
/-- An expression behind a text. -/
theorem expr29_any {w0 : World} (hTb : Tabs w0) (hFm : FormsAt w0) {b : Nat} (hb0 : w0.heap.size ≤ b) (x : Tr) (kv pv : Value) (T : List UInt8) (w : World) (hfine : fineT x) (hTA : TAt w0 x kv) (hPA : PhAt w0 x.ph pv) (hbel : Below w0.heap.size w0 w) (htx : TxAt w0.heap.size b T w) :
    Calls Tryz.prog 29 #[.pointer (some ⟨b, 0, none⟩), x.val kv pv] w fun e w' => e = .returned (.bool (okT 1 0 x)) ∧ Kps w0.heap.size b w w' ∧ (okT 1 0 x = true → TxAt w0.heap.size b (T ++ txT 1 x) w') ∧ ∃ T', TxAt w0.heap.size b T' w' := by
  have hbt : b < w.heap.size := by
    obtain ⟨bs, _, h⟩ := htx
    rcases h with h | h <;> exact h.lt
  have hBw : w0.heap.size ≤ w.heap.size := hbel.size
  obtain ⟨op, nm, pr, k, bb, n, t, ph, ks⟩ := x
  have hTA0 := hTA
  rw [TAt] at hTA0
  obtain ⟨kp, kc, rfl, _⟩ := hTA0
  have hPA0 := hPA
  obtain ⟨pa, pc, rfl, _⟩ := hPA0
  have eph : (Tr.mk op nm pr k bb n t ph ks).ph = ph := rfl
  rw [eph] at hPA ⊢
  unfold Tr.val
  dsimp only
  have hD := fun (W : World) (h : Below w0.heap.size w0 W) (h1 : W.heap[w.heap.size]? = some (.cells #[.pointer (some ⟨b, 0, none⟩)] 52 (0, 0))) (h2 : W.heap[w.heap.size + 1 + 1]? = some (.cells #[.func (.func 65) #[] #[.pointer (some ⟨w.heap.size, 0, none⟩), .pointer (some ⟨w.heap.size + 1 + 1, 0, none⟩)]] 121 (0, 0))) (ht : TxAt w0.heap.size b T W) =>
    down_any hTb hFm hb0 (c1 := w.heap.size) (c2 := w.heap.size + 1 + 1) (by omega) (by omega) (.mk op nm pr k bb n t ph ks) 1 0 _ _ T W (by decide) (by decide) (by decide) (by decide) hfine hTA hPA h h1 h2 ht
  unfold Tr.val at hD
  dsimp only at hD
  generalize okT 1 0 (.mk op nm pr k bb n t ph ks) = OK at hD ⊢
  generalize T ++ txT 1 (.mk op nm pr k bb n t ph ks) = TX at hD ⊢
  have hmf : ∀ (fn : Fn) (first cap : Array Value) (w : World), (Instr.makeFunc fn first cap).run Tryz.prog w = .ok (.func fn first cap) w := fun _ _ _ _ => rfl
  have z1 : (w.alloc (.cells #[.pointer (some ⟨b, 0, none⟩)] 52)).heap.size = w.heap.size + 1 := by simp
  have z2 : ((w.alloc (.cells #[.pointer (some ⟨b, 0, none⟩)] 52)).alloc (.cells #[.int .i64 op, .slice kp ks.length kc, .string (txt nm), .string (txt pr), .int .i64 k, .bool bb, .int .i64 n, .string (txt t), .slice pa ph.length pc] 39)).heap.size = w.heap.size + 1 + 1 := by simp
  have n1 := heap_alloc_new w (.cells #[.pointer (some ⟨b, 0, none⟩)] 52)
  have n3 := heap_alloc_new ((w.alloc (.cells #[.pointer (some ⟨b, 0, none⟩)] 52)).alloc (.cells #[.int .i64 op, .slice kp ks.length kc, .string (txt nm), .string (txt pr), .int .i64 k, .bool bb, .int .i64 n, .string (txt t), .slice pa ph.length pc] 39)) (.cells #[.func (.func 65) #[] #[.pointer (some ⟨w.heap.size, 0, none⟩), .pointer (some ⟨w.heap.size + 1 + 1, 0, none⟩)]] 121)
  rw [z2] at n3
  have b2 := below_new (w.alloc (.cells #[.pointer (some ⟨b, 0, none⟩)] 52)) (.cells #[.int .i64 op, .slice kp ks.length kc, .string (txt nm), .string (txt pr), .int .i64 k, .bool bb, .int .i64 n, .string (txt t), .slice pa ph.length pc] 39)
  have b3 := below_new ((w.alloc (.cells #[.pointer (some ⟨b, 0, none⟩)] 52)).alloc (.cells #[.int .i64 op, .slice kp ks.length kc, .string (txt nm), .string (txt pr), .int .i64 k, .bool bb, .int .i64 n, .string (txt t), .slice pa ph.length pc] 39)) (.cells #[.func (.func 65) #[] #[.pointer (some ⟨w.heap.size, 0, none⟩), .pointer (some ⟨w.heap.size + 1 + 1, 0, none⟩)]] 121)
  have n1' := (b3.block w.heap.size (by omega)).trans ((b2.block w.heap.size (by omega)).trans n1)
  have hb3 : Below w.heap.size w (((w.alloc (.cells #[.pointer (some ⟨b, 0, none⟩)] 52)).alloc (.cells #[.int .i64 op, .slice kp ks.length kc, .string (txt nm), .string (txt pr), .int .i64 k, .bool bb, .int .i64 n, .string (txt t), .slice pa ph.length pc] 39)).alloc (.cells #[.func (.func 65) #[] #[.pointer (some ⟨w.heap.size, 0, none⟩), .pointer (some ⟨w.heap.size + 1 + 1, 0, none⟩)]] 121)) := ((below_new w (.cells #[.pointer (some ⟨b, 0, none⟩)] 52)).trans (b2.mono (by omega))).trans (b3.mono (by omega))
  have n2 := (b3.block (w.heap.size + 1) (by omega)).trans ((by rw [z1.symm]; exact heap_alloc_new _ _ : ((w.alloc (.cells #[.pointer (some ⟨b, 0, none⟩)] 52)).alloc (.cells #[.int .i64 op, .slice kp ks.length kc, .string (txt nm), .string (txt pr), .int .i64 k, .bool bb, .int .i64 n, .string (txt t), .slice pa ph.length pc] 39)).heap[w.heap.size + 1]? = some (.cells #[.int .i64 op, .slice kp ks.length kc, .string (txt nm), .string (txt pr), .int .i64 k, .bool bb, .int .i64 n, .string (txt t), .slice pa ph.length pc] 39)))
  clear n1 b2 b3 z1 z2
  replace hD : Hid _ := hD
  replace n1' : Hid _ := n1'
  replace n2 : Hid _ := n2
  replace n3 : Hid _ := n3
  replace hb3 : Hid _ := hb3
  go_enter Tryz.func29, Tryz.ntmps29
  go_upto_region 3 with fail
  generalize (((w.alloc (.cells #[.pointer (some ⟨b, 0, none⟩)] 52)).alloc (.cells #[.int .i64 op, .slice kp ks.length kc, .string (txt nm), .string (txt pr), .int .i64 k, .bool bb, .int .i64 n, .string (txt t), .slice pa ph.length pc] 39)).alloc (.cells #[.func (.func 65) #[] #[.pointer (some ⟨w.heap.size, 0, none⟩), .pointer (some ⟨w.heap.size + 1 + 1, 0, none⟩)]] 121)) = W4 at *
  have hb4 := hb3.out
  have k1 := n1'.out
  have k2 := n2.out
  have k3 := n3.out
  have hh := hD.out W4 (hbel.trans (hb4.mono hBw)) k1 k3 (TxAt.below htx hb4)
  have y0 : W4.cell? ⟨w.heap.size + 1, 0, none⟩ = some (.int .i64 op) := box_cell k2 0
  have y1 : W4.cell? ⟨w.heap.size + 1, 1, none⟩ = some (.slice kp ks.length kc) := box_cell k2 1
  have y2 : W4.cell? ⟨w.heap.size + 1, 2, none⟩ = some (.string (txt nm)) := box_cell k2 2
  have y3 : W4.cell? ⟨w.heap.size + 1, 3, none⟩ = some (.string (txt pr)) := box_cell k2 3
  have y4 : W4.cell? ⟨w.heap.size + 1, 4, none⟩ = some (.int .i64 k) := box_cell k2 4
  have y5 : W4.cell? ⟨w.heap.size + 1, 5, none⟩ = some (.bool bb) := box_cell k2 5
  have y6 : W4.cell? ⟨w.heap.size + 1, 6, none⟩ = some (.int .i64 n) := box_cell k2 6
  have y7 : W4.cell? ⟨w.heap.size + 1, 7, none⟩ = some (.string (txt t)) := box_cell k2 7
  have y8 : W4.cell? ⟨w.heap.size + 1, 8, none⟩ = some (.slice pa ph.length pc) := box_cell k2 8
  have yc : W4.cell? ⟨w.heap.size + 1 + 1, 0, none⟩ = some (.func (.func 65) #[] #[.pointer (some ⟨w.heap.size, 0, none⟩), .pointer (some ⟨w.heap.size + 1 + 1, 0, none⟩)]) := box_cell k3 0
  replace hh : Hid _ := hh
  replace hb4 : Hid _ := hb4
  clear k1 k2 k3 hD n1' n2 n3 hb3
  go_wp2_with (have h2 := hh.out; go_at_call 65; (refine Calls.mono h2 ?_); clear h2; rintro e w6 ⟨rfl, hk6, hy6, hT6⟩)
  go_returns
  exact ⟨rfl, (Kps.of hb4.out hBw).trans hk6, hy6, hT6⟩
set_option maxRecDepth 100000 in
theorem told_no (b : Nat) (w : World) : Calls Tryz.prog 18 #[.pointer (some ⟨b, 0, none⟩), .bool false] w fun e w' => e = .returned (.tuple #[.string ⟨#[]⟩, .int .i64 83]) ∧ w' = w := by
  go_enter Tryz.func18, Tryz.ntmps18
  go_wp2_with fail
  go_returns
  exact ⟨rfl, rfl⟩
set_option maxRecDepth 100000 in
theorem told_yes {B b : Nat} {T : List UInt8} {w : World} (h : TxAt B b T w) (hB : B ≤ w.heap.size) : Calls Tryz.prog 18 #[.pointer (some ⟨b, 0, none⟩), .bool true] w fun e w' =>
    e = .returned (.tuple #[.string (txt (if T.length ≤ 4096 then T else [])), .int .i64 (if T.length ≤ 4096 then 0 else 2)]) ∧ Below B w w' := by
  obtain ⟨bs, hW, hb⟩ := h
  have hL := fun (_ : Unit) => len_any hb
  have hS := fun (_ : Unit) => tx_String_any B b bs w hb hB
  by_cases h4 : T.length ≤ 4096
  · obtain rfl := hW.le h4
    rw [if_pos h4, if_pos h4]
    have h5 : decide ((bs.length : Int) > 4096) = false := by simp; omega
    have h6 : decide ((4096 : Int) < (bs.length : Int)) = false := by simp; omega
    replace hL : Hid _ := hL
    replace hS : Hid _ := hS
    clear hW hb
    go_enter Tryz.func18, Tryz.ntmps18
    go_wp2_with (first
      | (have hh := hL.out (); go_at_call 33; (refine Calls.mono hh ?_); clear hh; rintro e w1 ⟨rfl, rfl⟩)
      | (have hh := hS.out (); go_at_call 34; (refine Calls.mono hh ?_); clear hh; rintro e w2 ⟨rfl, hb2⟩))
    go_returns
    exact ⟨rfl, hb2⟩
  · have h7 := hW.gt (by omega)
    rw [if_neg h4, if_neg h4]
    have h5 : decide ((bs.length : Int) > 4096) = true := by simp; omega
    have h6 : decide ((4096 : Int) < (bs.length : Int)) = true := by simp; omega
    replace hL : Hid _ := hL
    clear hW hb hS
    go_enter Tryz.func18, Tryz.ntmps18
    go_wp2_with (have hh := hL.out (); go_at_call 33; (refine Calls.mono hh ?_); clear hh; rintro e w1 ⟨rfl, rfl⟩)
    go_returns
    exact ⟨rfl, Below.refl _ _⟩
/-- What PrintExpr answers. -/
def prT (x : Tr) : List UInt8 × Int := if okT 1 0 x then (if (txT 1 x).length ≤ 4096 then (txT 1 x, 0) else ([], 2)) else ([], 83)
theorem start_text {w : World} {B b : Nat} (hb : b = w.heap.size) (hB : B ≤ b) : TxAt B b [] (w.alloc (.cells #[.pointer none, .slice none 0 0] 58)) := by
  subst hb
  exact ⟨[], Wr.nil, .inl ⟨hB, .slice none 0 0, heap_alloc_new w _, World.ownsRow_nil _ _ _ _, by simp [Value.ownBlock]⟩⟩
set_option maxRecDepth 100000 in
set_option maxHeartbeats 2000000 in
theorem print_any (x : Tr) (kv pv : Value) (w : World) (hTb : Tabs w) (hFm : FormsAt w) (hfine : fineT x) (hTA : TAt w x kv) (hPA : PhAt w x.ph pv) :
    Calls Tryz.prog 13 #[x.val kv pv] w fun e w' => e = .returned (.tuple #[.string (txt (prT x).1), .int .i64 (prT x).2]) ∧ Below w.heap.size w w' := by
  obtain ⟨op, nm, pr, k, bb, n, t, ph, ks⟩ := x
  have hTA0 := hTA
  rw [TAt] at hTA0
  obtain ⟨kp, kc, rfl, _⟩ := hTA0
  have hPA0 := hPA
  obtain ⟨pa, pc, rfl, _⟩ := hPA0
  have eph : (Tr.mk op nm pr k bb n t ph ks).ph = ph := rfl
  rw [eph] at hPA ⊢
  unfold Tr.val
  dsimp only
  have b1 := below_new w (.cells #[.int .i64 op, .slice kp ks.length kc, .string (txt nm), .string (txt pr), .int .i64 k, .bool bb, .int .i64 n, .string (txt t), .slice pa ph.length pc] 39)
  have b2 := below_new (w.alloc (.cells #[.int .i64 op, .slice kp ks.length kc, .string (txt nm), .string (txt pr), .int .i64 k, .bool bb, .int .i64 n, .string (txt t), .slice pa ph.length pc] 39)) (.cells #[.pointer none, .slice none 0 0] 58)
  have z1 : (w.alloc (.cells #[.int .i64 op, .slice kp ks.length kc, .string (txt nm), .string (txt pr), .int .i64 k, .bool bb, .int .i64 n, .string (txt t), .slice pa ph.length pc] 39)).heap.size = w.heap.size + 1 := by simp
  have hbb := below_on b1 b2
  have ht := start_text (w := w.alloc (.cells #[.int .i64 op, .slice kp ks.length kc, .string (txt nm), .string (txt pr), .int .i64 k, .bool bb, .int .i64 n, .string (txt t), .slice pa ph.length pc] 39)) (B := w.heap.size) (b := w.heap.size + 1) z1.symm (by omega)
  have n1 := (b2.block w.heap.size (by omega)).trans (heap_alloc_new w (.cells #[.int .i64 op, .slice kp ks.length kc, .string (txt nm), .string (txt pr), .int .i64 k, .bool bb, .int .i64 n, .string (txt t), .slice pa ph.length pc] 39))
  have hE := fun (_ : Unit) => expr29_any hTb hFm (b := w.heap.size + 1) (by omega) (.mk op nm pr k bb n t ph ks) _ _ [] _ hfine hTA hPA hbb ht
  unfold Tr.val at hE
  dsimp only at hE
  rw [List.nil_append] at hE
  unfold prT
  have y0 : ((w.alloc (.cells #[.int .i64 op, .slice kp ks.length kc, .string (txt nm), .string (txt pr), .int .i64 k, .bool bb, .int .i64 n, .string (txt t), .slice pa ph.length pc] 39)).alloc (.cells #[.pointer none, .slice none 0 0] 58)).cell? ⟨w.heap.size, 0, none⟩ = some (.int .i64 op) := box_cell n1 0
  have y1 : ((w.alloc (.cells #[.int .i64 op, .slice kp ks.length kc, .string (txt nm), .string (txt pr), .int .i64 k, .bool bb, .int .i64 n, .string (txt t), .slice pa ph.length pc] 39)).alloc (.cells #[.pointer none, .slice none 0 0] 58)).cell? ⟨w.heap.size, 1, none⟩ = some (.slice kp ks.length kc) := box_cell n1 1
  have y2 : ((w.alloc (.cells #[.int .i64 op, .slice kp ks.length kc, .string (txt nm), .string (txt pr), .int .i64 k, .bool bb, .int .i64 n, .string (txt t), .slice pa ph.length pc] 39)).alloc (.cells #[.pointer none, .slice none 0 0] 58)).cell? ⟨w.heap.size, 2, none⟩ = some (.string (txt nm)) := box_cell n1 2
  have y3 : ((w.alloc (.cells #[.int .i64 op, .slice kp ks.length kc, .string (txt nm), .string (txt pr), .int .i64 k, .bool bb, .int .i64 n, .string (txt t), .slice pa ph.length pc] 39)).alloc (.cells #[.pointer none, .slice none 0 0] 58)).cell? ⟨w.heap.size, 3, none⟩ = some (.string (txt pr)) := box_cell n1 3
  have y4 : ((w.alloc (.cells #[.int .i64 op, .slice kp ks.length kc, .string (txt nm), .string (txt pr), .int .i64 k, .bool bb, .int .i64 n, .string (txt t), .slice pa ph.length pc] 39)).alloc (.cells #[.pointer none, .slice none 0 0] 58)).cell? ⟨w.heap.size, 4, none⟩ = some (.int .i64 k) := box_cell n1 4
  have y5 : ((w.alloc (.cells #[.int .i64 op, .slice kp ks.length kc, .string (txt nm), .string (txt pr), .int .i64 k, .bool bb, .int .i64 n, .string (txt t), .slice pa ph.length pc] 39)).alloc (.cells #[.pointer none, .slice none 0 0] 58)).cell? ⟨w.heap.size, 5, none⟩ = some (.bool bb) := box_cell n1 5
  have y6 : ((w.alloc (.cells #[.int .i64 op, .slice kp ks.length kc, .string (txt nm), .string (txt pr), .int .i64 k, .bool bb, .int .i64 n, .string (txt t), .slice pa ph.length pc] 39)).alloc (.cells #[.pointer none, .slice none 0 0] 58)).cell? ⟨w.heap.size, 6, none⟩ = some (.int .i64 n) := box_cell n1 6
  have y7 : ((w.alloc (.cells #[.int .i64 op, .slice kp ks.length kc, .string (txt nm), .string (txt pr), .int .i64 k, .bool bb, .int .i64 n, .string (txt t), .slice pa ph.length pc] 39)).alloc (.cells #[.pointer none, .slice none 0 0] 58)).cell? ⟨w.heap.size, 7, none⟩ = some (.string (txt t)) := box_cell n1 7
  have y8 : ((w.alloc (.cells #[.int .i64 op, .slice kp ks.length kc, .string (txt nm), .string (txt pr), .int .i64 k, .bool bb, .int .i64 n, .string (txt t), .slice pa ph.length pc] 39)).alloc (.cells #[.pointer none, .slice none 0 0] 58)).cell? ⟨w.heap.size, 8, none⟩ = some (.slice pa ph.length pc) := box_cell n1 8
  clear b1 b2 ht n1 hTb hFm hfine hTA hPA
  generalize txT 1 (.mk op nm pr k bb n t ph ks) = TX at *
  have hN := fun (w' : World) => told_no (w.heap.size + 1) w'
  have hY := fun (w' : World) (h : TxAt w.heap.size (w.heap.size + 1) TX w') (hB : w.heap.size ≤ w'.heap.size) => told_yes h hB
  replace hE : Hid _ := hE
  replace hN : Hid _ := hN
  replace hY : Hid _ := hY
  replace hbb : Hid _ := hbb
  cases hok : okT 1 0 (.mk op nm pr k bb n t ph ks)
  · rw [hok] at hE
    replace hok : Hid _ := hok
    go_enter Tryz.func13, Tryz.ntmps13
    go_wp2_with (first
      | (have hh := hE.out (); go_at_call 29; (refine Calls.mono hh ?_); clear hh; rintro e w1 ⟨rfl, hk1, hy1, hT1⟩; replace hy1 : Hid _ := hy1; replace hT1 : Hid _ := hT1)
      | (have hh := hN.out w1; go_at_call 18; (refine Calls.mono hh ?_); clear hh; rintro e w2 ⟨rfl, rfl⟩))
    go_returns
    exact ⟨rfl, hbb.out.trans hk1.bel⟩
  · rw [hok] at hE
    replace hok : Hid _ := hok
    have e1 : (if true = true then (if TX.length ≤ 4096 then (TX, (0 : Int)) else ([], 2)) else ([], 83)).1 = (if TX.length ≤ 4096 then TX else []) := by by_cases h : TX.length ≤ 4096 <;> simp [h]
    have e2 : (if true = true then (if TX.length ≤ 4096 then (TX, (0 : Int)) else ([], 2)) else ([], 83)).2 = (if TX.length ≤ 4096 then 0 else 2) := by by_cases h : TX.length ≤ 4096 <;> simp [h]
    rw [e1, e2]
    generalize txt (if TX.length ≤ 4096 then TX else []) = AN at *
    generalize (if TX.length ≤ 4096 then (0 : Int) else 2) = AE at *
    clear e1 e2
    go_enter Tryz.func13, Tryz.ntmps13
    go_wp2_with (first
      | (have hh := hE.out (); go_at_call 29; (refine Calls.mono hh ?_); clear hh hE; rintro e w1 ⟨rfl, hk1, hy1, hT1⟩; have hq := fun (_ : Unit) => hY.out w1 (hy1 rfl) (Nat.le_trans hbb.out.size hk1.size); replace hq : Hid _ := hq; clear hy1 hT1)
      | (have hh := hq.out (); go_at_call 18; (refine Calls.mono hh ?_); clear hh; rintro e w2 ⟨rfl, hb2⟩))
    go_returns
    exact ⟨rfl, (hbb.out.trans hk1.bel).trans hb2⟩
end Go.Proofs.YtkcnpbckmdgfnaaGreatDoor
