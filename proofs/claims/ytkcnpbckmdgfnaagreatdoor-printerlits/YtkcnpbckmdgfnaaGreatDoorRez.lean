/-
  The document's expr of any expression.
  The document's PrintExpr of any expression: the same answer as the program's.
-/
import Derived.Test.YtkcnpbckmdgfnaaGreatDoorRxz
import Derived.Test.YtkcnpbckmdgfnaaGreatDoorRqz
import Derived.Test.YtkcnpbckmdgfnaaGreatDoorRtz
import Derived.Test.YtkcnpbckmdgfnaaGreatDoorPrx
namespace Go.Proofs.YtkcnpbckmdgfnaaGreatDoor
open Go.ChangeShapes Go.WideShapes Go.ChangeAt Go.RowKit
set_option linter.unusedSimpArgs false
set_option linter.unusedVariables false

theorem headD_get {α : Type} (l : List α) (d : α) : l.headD d = l.getD 0 d := by cases l <;> rfl
theorem tail_get {α : Type} (l : List α) (d : α) : l.tail.headD d = l.getD 1 d := by
  rcases l with _ | ⟨a, _ | ⟨b, l⟩⟩ <;> rfl
theorem br_one (op : Int) (ho : isOp op = true) : brB op 1 = false := by
  have := lvl_pos op ho
  unfold brB
  simp
  omega
def fldF (op : Int) (nm pr : List UInt8) (k : Int) (bb : Bool) (n : Int) (t : List UInt8) (ph : List Int) (l : Nat) : Bool := isOp op && decide (l = (fmOf op).pl.length) && fldD op nm pr k bb n t ph
def dpQ (op : Int) : Int := if (fmOf op).dp then 1 else 0
theorem okT_at (dp : Int) (op : Int) (nm pr : List UInt8) (k : Int) (bb : Bool) (n : Int) (t : List UInt8) (ph : List Int) (ks : List Tr) (hF : fldF op nm pr k bb n t ph ks.length = true) : okT 1 dp (.mk op nm pr k bb n t ph ks) = (nmsB op nm pr && decide (dp + dpQ op ≤ 50) && okK (fmOf op).pl (dp + dpQ op) ks) := by
  have ho : isOp op = true := by
    unfold fldF at hF
    simp only [Bool.and_eq_true] at hF
    exact hF.1.1
  rw [okT_is]
  unfold fldF at hF
  rw [hF, Bool.true_and]
  unfold dpN
  rw [br_one op ho]
  unfold dpQ
  simp
theorem txT_at (op : Int) (nm pr : List UInt8) (k : Int) (bb : Bool) (n : Int) (t : List UInt8) (ph : List Int) (ks : List Tr) (ho : isOp op = true) : txT 1 (.mk op nm pr k bb n t ph ks) = (fmOf op).ah ++ (ownT op nm pr k bb n t ++ (txK true (fmOf op).bt (fmOf op).pl ks ++ (fmOf op).be)) := by
  rw [txT]
  unfold ahT beT
  rw [br_one op ho]
  simp
theorem own_none (op : Int) (nm pr : List UInt8) (k : Int) (bb : Bool) (n : Int) (t : List UInt8) (h : 4 ≤ op) : ownT op nm pr k bb n t = [] := by
  unfold ownT
  rw [if_neg (by omega), if_neg (by omega), if_neg (by omega)]
theorem nms_none (op : Int) (nm pr : List UInt8) (h : 4 ≤ op) : nmsB op nm pr = true := by
  unfold nmsB
  rw [if_neg (by omega), if_neg (by omega)]
/-- One kid. -/
theorem okT_one (dp : Int) (op : Int) (nm pr : List UInt8) (k : Int) (bb : Bool) (n : Int) (t : List UInt8) (ph : List Int) (y : Tr) (hF : fldF op nm pr k bb n t ph 1 = true) (h4 : 4 ≤ op) : okT 1 dp (.mk op nm pr k bb n t ph [y]) = (decide (dp + dpQ op ≤ 50) && okT ((fmOf op).pl.getD 0 0) (dp + dpQ op) y) := by
  rw [okT_at dp op nm pr k bb n t ph [y] hF, nms_none op nm pr h4, okK, okK, headD_get]
  simp
theorem txT_one (op : Int) (nm pr : List UInt8) (k : Int) (bb : Bool) (n : Int) (t : List UInt8) (ph : List Int) (y : Tr) (ho : isOp op = true) (h4 : 4 ≤ op) : txT 1 (.mk op nm pr k bb n t ph [y]) = (fmOf op).ah ++ (txT ((fmOf op).pl.getD 0 0) y ++ (fmOf op).be) := by
  rw [txT_at op nm pr k bb n t ph [y] ho, own_none op nm pr k bb n t h4, txK, txK, headD_get]
  simp
theorem two_forms (m : Nat) (h1 : 4 ≤ m) (h2 : m ≤ 16) : (fmOf (m : Int)).dp = false ∧ (fmOf (m : Int)).ah = [] ∧ (fmOf (m : Int)).be = [] ∧ (fmOf (m : Int)).pl.length = 2 := by
  have : ∀ m : Nat, m < 17 → 4 ≤ m → (fmOf (m : Int)).dp = false ∧ (fmOf (m : Int)).ah = [] ∧ (fmOf (m : Int)).be = [] ∧ (fmOf (m : Int)).pl.length = 2 := by decide
  exact this m (by omega) h1
theorem okT_two (dp : Int) (m : Nat) (h1 : 4 ≤ m) (h2 : m ≤ 16) (nm pr : List UInt8) (k : Int) (bb : Bool) (n : Int) (t : List UInt8) (ph : List Int) (y z : Tr) (hF : fldF (m : Int) nm pr k bb n t ph 2 = true) (hd : dp ≤ 50) : okT 1 dp (.mk (m : Int) nm pr k bb n t ph [y, z]) = (okT ((fmOf (m : Int)).pl.getD 0 0) dp y && okT ((fmOf (m : Int)).pl.getD 1 0) dp z) := by
  have hq : dpQ (m : Int) = 0 := by unfold dpQ; rw [(two_forms m h1 h2).1]; rfl
  rw [okT_at dp (m : Int) nm pr k bb n t ph [y, z] hF, nms_none (m : Int) nm pr (by omega), okK, okK, okK, headD_get, tail_get, hq]
  simp [hd]
theorem txT_two (m : Nat) (h1 : 4 ≤ m) (h2 : m ≤ 16) (nm pr : List UInt8) (k : Int) (bb : Bool) (n : Int) (t : List UInt8) (ph : List Int) (y z : Tr) (ho : isOp (m : Int) = true) : txT 1 (.mk (m : Int) nm pr k bb n t ph [y, z]) = txT ((fmOf (m : Int)).pl.getD 0 0) y ++ (fmOf (m : Int)).bt ++ txT ((fmOf (m : Int)).pl.getD 1 0) z := by
  obtain ⟨_, e1, e2, _⟩ := two_forms m h1 h2
  rw [txT_at (m : Int) nm pr k bb n t ph [y, z] ho, own_none (m : Int) nm pr k bb n t (by omega), txK, txK, txK, headD_get, tail_get, e1, e2]
  simp
theorem core_lit {w0 : World} {b : Nat} (hTb : Tabs w0) {dp : Int} (h0 : 0 ≤ dp) (hd : dp ≤ 50) (nm pr : List UInt8) (k : Int) (bb : Bool) (n : Int) (t : List UInt8) (ph : List Int) (kv pv : Value) (hF : fldF 1 nm pr k bb n t ph ([] : List Tr).length = true) (hfi : fineT (.mk 1 nm pr k bb n t ph [])) (hsh : Short (.mk 1 nm pr k bb n t ph [])) (hTA : TAt w0 (.mk 1 nm pr k bb n t ph []) kv) (hPA : PhAt w0 ph pv) (T : List UInt8) (w : World) (hbel : Below w0.heap.size w0 w) (hS : St w0.heap.size b T true [] dp w w) :
    Calls Tryz.prog 22 #[.pointer (some ⟨b, 0, none⟩), (Tr.mk 1 nm pr k bb n t ph []).val kv pv] w fun e w' => e = .returned (.tuple #[]) ∧ St w0.heap.size b T (okT 1 dp (.mk 1 nm pr k bb n t ph [])) (txT 1 (.mk 1 nm pr k bb n t ph [])) dp w w' := by
  have hTA0 := hTA
  rw [TAt] at hTA
  obtain ⟨kp, kc, rfl, hrow⟩ := hTA
  have hPA0 := hPA
  obtain ⟨pa, pc, rfl, hpath⟩ := hPA
  have hf : ∀ w1, Below w.heap.size w w1 → Calls Tryz.prog 44 #[(Tr.mk 1 nm pr k bb n t ph []).val (.slice kp ([] : List Tr).length kc) (.slice pa ph.length pc)] w1 fun e w' => e = .returned (.bool true) ∧ Below w1.heap.size w1 w' := fun w1 hb1 => by
    have hb := below_on hbel hb1
    rw [fineT] at hfi
    have := rfields_any 1 nm pr k bb n t pa ph pc kp ([] : List Tr).length kc w1 (hTb.below hb) (hpath.below hb) hfi.2.2.2.1
    unfold fldF at hF
    rw [hF] at this
    exact this
  have e1 : okT 1 dp (.mk 1 nm pr k bb n t ph []) = true := by
    rw [okT_at dp 1 nm pr k bb n t ph [] hF, okK]
    simp only [show nmsB 1 nm pr = true from rfl, show dpQ 1 = 0 from rfl]
    simp [hd]
  have e2 : txT 1 (.mk 1 nm pr k bb n t ph []) = litT k bb n t := by
    rw [txT_at 1 nm pr k bb n t ph [] rfl, txK]
    simp only [show (fmOf 1).ah = [] from rfl, show (fmOf 1).be = [] from rfl, show ownT 1 nm pr k bb n t = litT k bb n t from rfl]
    simp
  rw [e1, e2]
  rw [fineT] at hfi
  have hl : litB k bb n t ph = true := by
    unfold fldF fldD at hF
    rw [if_pos rfl] at hF
    simp only [Bool.and_eq_true] at hF
    exact hF.2.2
  refine rexpr_lit nm pr k bb n t kp _ kc pa ph.length pc w hS hf fun w2 h => ?_
  have hb := hbel.trans h.kps.bel
  have := h.step (ok2 := true) (Y := litT k bb n t) (dp2 := dp) (f := 45) (ar := #[.pointer (some ⟨b, 0, none⟩), .agg #[.int .i64 k, .bool bb, .int .i64 n, .string (txt t), .slice pa ph.length pc]]) (fun e => e) fun T' h' => by
    obtain ⟨hB, hk, T2, hW, hT⟩ := h'
    refine (lit_any k bb n t pa ph pc w2 hW hB (hTb.below hb) (hpath.below hb) hfi.2.2.2.1 hl hfi.2.2.1).mono ?_
    rintro e w' ⟨rfl, hW', hK'⟩
    exact ⟨rfl, hB, hK', _, hW', fun e => by rw [hT e, List.append_nil]⟩
  rw [List.nil_append] at this
  exact this
theorem core_var {w0 : World} {b : Nat} (hTb : Tabs w0) {dp : Int} (h0 : 0 ≤ dp) (hd : dp ≤ 50) (nm pr : List UInt8) (k : Int) (bb : Bool) (n : Int) (t : List UInt8) (ph : List Int) (kv pv : Value) (hF : fldF 2 nm pr k bb n t ph ([] : List Tr).length = true) (hfi : fineT (.mk 2 nm pr k bb n t ph [])) (hsh : Short (.mk 2 nm pr k bb n t ph [])) (hTA : TAt w0 (.mk 2 nm pr k bb n t ph []) kv) (hPA : PhAt w0 ph pv) (T : List UInt8) (w : World) (hbel : Below w0.heap.size w0 w) (hS : St w0.heap.size b T true [] dp w w) :
    Calls Tryz.prog 22 #[.pointer (some ⟨b, 0, none⟩), (Tr.mk 2 nm pr k bb n t ph []).val kv pv] w fun e w' => e = .returned (.tuple #[]) ∧ St w0.heap.size b T (okT 1 dp (.mk 2 nm pr k bb n t ph [])) (txT 1 (.mk 2 nm pr k bb n t ph [])) dp w w' := by
  have hTA0 := hTA
  rw [TAt] at hTA
  obtain ⟨kp, kc, rfl, hrow⟩ := hTA
  have hPA0 := hPA
  obtain ⟨pa, pc, rfl, hpath⟩ := hPA
  have hf : ∀ w1, Below w.heap.size w w1 → Calls Tryz.prog 44 #[(Tr.mk 2 nm pr k bb n t ph []).val (.slice kp ([] : List Tr).length kc) (.slice pa ph.length pc)] w1 fun e w' => e = .returned (.bool true) ∧ Below w1.heap.size w1 w' := fun w1 hb1 => by
    have hb := below_on hbel hb1
    rw [fineT] at hfi
    have := rfields_any 2 nm pr k bb n t pa ph pc kp ([] : List Tr).length kc w1 (hTb.below hb) (hpath.below hb) hfi.2.2.2.1
    unfold fldF at hF
    rw [hF] at this
    exact this
  have e1 : okT 1 dp (.mk 2 nm pr k bb n t ph []) = nmB nm := by
    rw [okT_at dp 2 nm pr k bb n t ph [] hF, okK]
    simp only [show nmsB 2 nm pr = nmB nm from rfl, show dpQ 2 = 0 from rfl]
    simp [hd]
  have e2 : txT 1 (.mk 2 nm pr k bb n t ph []) = nm := by
    rw [txT_at 2 nm pr k bb n t ph [] rfl, txK]
    simp only [show (fmOf 2).ah = [] from rfl, show (fmOf 2).be = [] from rfl, show ownT 2 nm pr k bb n t = nm from rfl]
    simp
  rw [e1, e2]
  have hl : nm.length ≤ 1048576 := by
    cases hsh with
    | mk _ _ _ _ _ _ _ _ _ h1 h2 _ => exact h1
  obtain ⟨hB, hk, T2, hW, hT⟩ := hS
  refine (rexpr_var nm pr k bb n t kp _ kc pa ph.length pc w hW hB (fun w1 hK => hTb.below (hbel.trans hK.bel)) hf hl).mono ?_
  rintro e w' ⟨rfl, hW', hK'⟩
  exact ⟨rfl, hB, hK', _, hW', fun e => by rw [hT rfl, List.append_nil]⟩
theorem core_prop {w0 : World} {b : Nat} (hTb : Tabs w0) {dp : Int} (h0 : 0 ≤ dp) (hd : dp ≤ 50) (nm pr : List UInt8) (k : Int) (bb : Bool) (n : Int) (t : List UInt8) (ph : List Int) (kv pv : Value) (hF : fldF 3 nm pr k bb n t ph ([] : List Tr).length = true) (hfi : fineT (.mk 3 nm pr k bb n t ph [])) (hsh : Short (.mk 3 nm pr k bb n t ph [])) (hTA : TAt w0 (.mk 3 nm pr k bb n t ph []) kv) (hPA : PhAt w0 ph pv) (T : List UInt8) (w : World) (hbel : Below w0.heap.size w0 w) (hS : St w0.heap.size b T true [] dp w w) :
    Calls Tryz.prog 22 #[.pointer (some ⟨b, 0, none⟩), (Tr.mk 3 nm pr k bb n t ph []).val kv pv] w fun e w' => e = .returned (.tuple #[]) ∧ St w0.heap.size b T (okT 1 dp (.mk 3 nm pr k bb n t ph [])) (txT 1 (.mk 3 nm pr k bb n t ph [])) dp w w' := by
  have hTA0 := hTA
  rw [TAt] at hTA
  obtain ⟨kp, kc, rfl, hrow⟩ := hTA
  have hPA0 := hPA
  obtain ⟨pa, pc, rfl, hpath⟩ := hPA
  have hf : ∀ w1, Below w.heap.size w w1 → Calls Tryz.prog 44 #[(Tr.mk 3 nm pr k bb n t ph []).val (.slice kp ([] : List Tr).length kc) (.slice pa ph.length pc)] w1 fun e w' => e = .returned (.bool true) ∧ Below w1.heap.size w1 w' := fun w1 hb1 => by
    have hb := below_on hbel hb1
    rw [fineT] at hfi
    have := rfields_any 3 nm pr k bb n t pa ph pc kp ([] : List Tr).length kc w1 (hTb.below hb) (hpath.below hb) hfi.2.2.2.1
    unfold fldF at hF
    rw [hF] at this
    exact this
  have e1 : okT 1 dp (.mk 3 nm pr k bb n t ph []) = (nmB nm && nmB pr) := by
    rw [okT_at dp 3 nm pr k bb n t ph [] hF, okK]
    simp only [show nmsB 3 nm pr = (nmB nm && nmB pr) from rfl, show dpQ 3 = 0 from rfl]
    simp [hd]
  have e2 : txT 1 (.mk 3 nm pr k bb n t ph []) = nm ++ [46] ++ pr := by
    rw [txT_at 3 nm pr k bb n t ph [] rfl, txK]
    simp only [show (fmOf 3).ah = [] from rfl, show (fmOf 3).be = [] from rfl, show ownT 3 nm pr k bb n t = nm ++ ([46] ++ pr) from rfl]
    simp
  rw [e1, e2]
  have hl : nm.length ≤ 1048576 ∧ pr.length ≤ 1048576 := by
    cases hsh with
    | mk _ _ _ _ _ _ _ _ _ h1 h2 _ => exact ⟨h1, h2⟩
  obtain ⟨hB, hk, T2, hW, hT⟩ := hS
  refine (rexpr_prop nm pr k bb n t kp _ kc pa ph.length pc w hW hB (fun w1 hK => hTb.below (hbel.trans hK.bel)) hf hl.1 hl.2).mono ?_
  rintro e w' ⟨rfl, hW', hK'⟩
  have e3 : (!nmB nm || !nmB pr) = !(nmB nm && nmB pr) := by cases nmB nm <;> cases nmB pr <;> rfl
  rw [e3] at hW'
  exact ⟨rfl, hB, hK', _, hW', fun e => by rw [hT rfl]; simp⟩
theorem core_two (m : Nat) (m1 : 4 ≤ m) (m2 : m ≤ 16) {w0 : World} {b : Nat} (hTb : Tabs w0) {dp : Int} (h0 : 0 ≤ dp) (hd : dp ≤ 50) (nm pr : List UInt8) (k : Int) (bb : Bool) (n : Int) (t : List UInt8) (ph : List Int) (y z : Tr) (ih1 : DOk w0 b y) (ih2 : DOk w0 b z) (kv pv : Value) (hF : fldF (m : Int) nm pr k bb n t ph ([y, z] : List Tr).length = true) (hfi : fineT (.mk (m : Int) nm pr k bb n t ph [y, z])) (hsh : Short (.mk (m : Int) nm pr k bb n t ph [y, z])) (hTA : TAt w0 (.mk (m : Int) nm pr k bb n t ph [y, z]) kv) (hPA : PhAt w0 ph pv) (T : List UInt8) (w : World) (hbel : Below w0.heap.size w0 w) (hS : St w0.heap.size b T true [] dp w w) :
    Calls Tryz.prog 22 #[.pointer (some ⟨b, 0, none⟩), (Tr.mk (m : Int) nm pr k bb n t ph [y, z]).val kv pv] w fun e w' => e = .returned (.tuple #[]) ∧ St w0.heap.size b T (okT 1 dp (.mk (m : Int) nm pr k bb n t ph [y, z])) (txT 1 (.mk (m : Int) nm pr k bb n t ph [y, z])) dp w w' := by
  have hTA0 := hTA
  rw [TAt] at hTA
  obtain ⟨kp, kc, rfl, hrow⟩ := hTA
  have hPA0 := hPA
  obtain ⟨pa, pc, rfl, hpath⟩ := hPA
  have hf : ∀ w1, Below w.heap.size w w1 → Calls Tryz.prog 44 #[(Tr.mk (m : Int) nm pr k bb n t ph [y, z]).val (.slice kp ([y, z] : List Tr).length kc) (.slice pa ph.length pc)] w1 fun e w' => e = .returned (.bool true) ∧ Below w1.heap.size w1 w' := fun w1 hb1 => by
    have hb := below_on hbel hb1
    rw [fineT] at hfi
    have := rfields_any (m : Int) nm pr k bb n t pa ph pc kp ([y, z] : List Tr).length kc w1 (hTb.below hb) (hpath.below hb) hfi.2.2.2.1
    unfold fldF at hF
    rw [hF] at this
    exact this
  have ho : isOp (m : Int) = true := by
    unfold fldF at hF
    simp only [Bool.and_eq_true] at hF
    exact hF.1.1
  obtain ⟨sg, hsl, hbt, hs⟩ := sg_any m m1 m2
  rw [okT_two dp m m1 m2 nm pr k bb n t ph y z hF hd, txT_two m m1 m2 nm pr k bb n t ph y z ho, hbt]
  have hpl := (two_forms m m1 m2).2.2.2
  have p1 := form_pl (m : Int) 0 (by omega)
  have p2 := form_pl (m : Int) 1 (by omega)
  refine rexpr_two (okA := okT ((fmOf (m : Int)).pl.getD 0 0) dp y) (XA := txT ((fmOf (m : Int)).pl.getD 0 0) y) (sg := sg) (m : Int) nm pr k bb n t kp _ kc pa ph.length pc w hS hf (by omega) (by omega) hsl hs (fun w2 h => ?_) (fun w2 h => ?_)
  · have := kid_on (m : Int) nm pr k bb n t ph [y, z] _ (.slice pa ph.length pc) 0 y rfl ih1 _ (as_first m m1 (by omega)) p1.1 p1.2 h0 (by omega) (fun _ => hd) hfi hsh hTA0 hbel h
    rw [Bool.true_and, List.nil_append] at this
    exact this
  · have := kid_on (m : Int) nm pr k bb n t ph [y, z] _ (.slice pa ph.length pc) 1 z rfl ih2 _ (as_next m m1 m2) p2.1 p2.2 h0 (by omega) (fun _ => hd) hfi hsh hTA0 hbel h
    exact this
theorem core_not {w0 : World} {b : Nat} (hTb : Tabs w0) {dp : Int} (h0 : 0 ≤ dp) (hd : dp ≤ 50) (nm pr : List UInt8) (k : Int) (bb : Bool) (n : Int) (t : List UInt8) (ph : List Int) (y : Tr) (ih : DOk w0 b y) (kv pv : Value) (hF : fldF 17 nm pr k bb n t ph ([y] : List Tr).length = true) (hfi : fineT (.mk 17 nm pr k bb n t ph [y])) (hsh : Short (.mk 17 nm pr k bb n t ph [y])) (hTA : TAt w0 (.mk 17 nm pr k bb n t ph [y]) kv) (hPA : PhAt w0 ph pv) (T : List UInt8) (w : World) (hbel : Below w0.heap.size w0 w) (hS : St w0.heap.size b T true [] dp w w) :
    Calls Tryz.prog 22 #[.pointer (some ⟨b, 0, none⟩), (Tr.mk 17 nm pr k bb n t ph [y]).val kv pv] w fun e w' => e = .returned (.tuple #[]) ∧ St w0.heap.size b T (okT 1 dp (.mk 17 nm pr k bb n t ph [y])) (txT 1 (.mk 17 nm pr k bb n t ph [y])) dp w w' := by
  have hTA0 := hTA
  rw [TAt] at hTA
  obtain ⟨kp, kc, rfl, hrow⟩ := hTA
  have hPA0 := hPA
  obtain ⟨pa, pc, rfl, hpath⟩ := hPA
  have hf : ∀ w1, Below w.heap.size w w1 → Calls Tryz.prog 44 #[(Tr.mk 17 nm pr k bb n t ph [y]).val (.slice kp ([y] : List Tr).length kc) (.slice pa ph.length pc)] w1 fun e w' => e = .returned (.bool true) ∧ Below w1.heap.size w1 w' := fun w1 hb1 => by
    have hb := below_on hbel hb1
    rw [fineT] at hfi
    have := rfields_any 17 nm pr k bb n t pa ph pc kp ([y] : List Tr).length kc w1 (hTb.below hb) (hpath.below hb) hfi.2.2.2.1
    unfold fldF at hF
    rw [hF] at this
    exact this
  rw [okT_one dp 17 nm pr k bb n t ph y hF (by decide), txT_one 17 nm pr k bb n t ph y rfl (by decide), show dpQ 17 = 1 from rfl, show (fmOf 17).ah = [78, 79, 84, 32] from rfl, show (fmOf 17).be = [] from rfl, List.append_nil]
  have p1 := form_pl 17 0 (by decide)
  refine rexpr_not (o1 := decide (dp + 1 ≤ 50)) nm pr k bb n t kp _ kc pa ph.length pc w hS hf h0 (by omega) (fun w2 h => ?_) (fun w2 h => ?_)
  · have := h.downs h0 (by omega)
    rw [Bool.true_and] at this
    exact this
  · exact kid_on 17 nm pr k bb n t ph [y] _ (.slice pa ph.length pc) 0 y rfl ih _ (as_first 17 (by decide) (by decide)) p1.1 p1.2 (by omega) (by omega) (fun e => of_decide_eq_true e) hfi hsh hTA0 hbel h
theorem core_neg {w0 : World} {b : Nat} (hTb : Tabs w0) {dp : Int} (h0 : 0 ≤ dp) (hd : dp ≤ 50) (nm pr : List UInt8) (k : Int) (bb : Bool) (n : Int) (t : List UInt8) (ph : List Int) (y : Tr) (ih : DOk w0 b y) (kv pv : Value) (hF : fldF 18 nm pr k bb n t ph ([y] : List Tr).length = true) (hfi : fineT (.mk 18 nm pr k bb n t ph [y])) (hsh : Short (.mk 18 nm pr k bb n t ph [y])) (hTA : TAt w0 (.mk 18 nm pr k bb n t ph [y]) kv) (hPA : PhAt w0 ph pv) (T : List UInt8) (w : World) (hbel : Below w0.heap.size w0 w) (hS : St w0.heap.size b T true [] dp w w) :
    Calls Tryz.prog 22 #[.pointer (some ⟨b, 0, none⟩), (Tr.mk 18 nm pr k bb n t ph [y]).val kv pv] w fun e w' => e = .returned (.tuple #[]) ∧ St w0.heap.size b T (okT 1 dp (.mk 18 nm pr k bb n t ph [y])) (txT 1 (.mk 18 nm pr k bb n t ph [y])) dp w w' := by
  have hTA0 := hTA
  rw [TAt] at hTA
  obtain ⟨kp, kc, rfl, hrow⟩ := hTA
  have hPA0 := hPA
  obtain ⟨pa, pc, rfl, hpath⟩ := hPA
  have hf : ∀ w1, Below w.heap.size w w1 → Calls Tryz.prog 44 #[(Tr.mk 18 nm pr k bb n t ph [y]).val (.slice kp ([y] : List Tr).length kc) (.slice pa ph.length pc)] w1 fun e w' => e = .returned (.bool true) ∧ Below w1.heap.size w1 w' := fun w1 hb1 => by
    have hb := below_on hbel hb1
    rw [fineT] at hfi
    have := rfields_any 18 nm pr k bb n t pa ph pc kp ([y] : List Tr).length kc w1 (hTb.below hb) (hpath.below hb) hfi.2.2.2.1
    unfold fldF at hF
    rw [hF] at this
    exact this
  rw [okT_one dp 18 nm pr k bb n t ph y hF (by decide), txT_one 18 nm pr k bb n t ph y rfl (by decide), show dpQ 18 = 1 from rfl, show (fmOf 18).ah = [45] from rfl, show (fmOf 18).be = [] from rfl, List.append_nil]
  have p1 := form_pl 18 0 (by decide)
  refine rexpr_neg (o1 := decide (dp + 1 ≤ 50)) nm pr k bb n t kp _ kc pa ph.length pc w hS hf h0 (by omega) (fun w2 h => ?_) (fun w2 h => ?_)
  · have := h.downs h0 (by omega)
    rw [Bool.true_and] at this
    exact this
  · exact kid_on 18 nm pr k bb n t ph [y] _ (.slice pa ph.length pc) 0 y rfl ih _ (as_first 18 (by decide) (by decide)) p1.1 p1.2 (by omega) (by omega) (fun e => of_decide_eq_true e) hfi hsh hTA0 hbel h
theorem core_null {w0 : World} {b : Nat} (hTb : Tabs w0) {dp : Int} (h0 : 0 ≤ dp) (hd : dp ≤ 50) (nm pr : List UInt8) (k : Int) (bb : Bool) (n : Int) (t : List UInt8) (ph : List Int) (y : Tr) (ih : DOk w0 b y) (kv pv : Value) (hF : fldF 19 nm pr k bb n t ph ([y] : List Tr).length = true) (hfi : fineT (.mk 19 nm pr k bb n t ph [y])) (hsh : Short (.mk 19 nm pr k bb n t ph [y])) (hTA : TAt w0 (.mk 19 nm pr k bb n t ph [y]) kv) (hPA : PhAt w0 ph pv) (T : List UInt8) (w : World) (hbel : Below w0.heap.size w0 w) (hS : St w0.heap.size b T true [] dp w w) :
    Calls Tryz.prog 22 #[.pointer (some ⟨b, 0, none⟩), (Tr.mk 19 nm pr k bb n t ph [y]).val kv pv] w fun e w' => e = .returned (.tuple #[]) ∧ St w0.heap.size b T (okT 1 dp (.mk 19 nm pr k bb n t ph [y])) (txT 1 (.mk 19 nm pr k bb n t ph [y])) dp w w' := by
  have hTA0 := hTA
  rw [TAt] at hTA
  obtain ⟨kp, kc, rfl, hrow⟩ := hTA
  have hPA0 := hPA
  obtain ⟨pa, pc, rfl, hpath⟩ := hPA
  have hf : ∀ w1, Below w.heap.size w w1 → Calls Tryz.prog 44 #[(Tr.mk 19 nm pr k bb n t ph [y]).val (.slice kp ([y] : List Tr).length kc) (.slice pa ph.length pc)] w1 fun e w' => e = .returned (.bool true) ∧ Below w1.heap.size w1 w' := fun w1 hb1 => by
    have hb := below_on hbel hb1
    rw [fineT] at hfi
    have := rfields_any 19 nm pr k bb n t pa ph pc kp ([y] : List Tr).length kc w1 (hTb.below hb) (hpath.below hb) hfi.2.2.2.1
    unfold fldF at hF
    rw [hF] at this
    exact this
  rw [okT_one dp 19 nm pr k bb n t ph y hF (by decide), txT_one 19 nm pr k bb n t ph y rfl (by decide), show dpQ 19 = 0 from rfl, show (fmOf 19).ah = [] from rfl, show (fmOf 19).be = [32, 73, 83, 32, 78, 85, 76, 76] from rfl, List.nil_append, Int.add_zero, show decide (dp ≤ 50) = true from decide_eq_true hd, Bool.true_and]
  have p1 := form_pl 19 0 (by decide)
  refine rexpr_null nm pr k bb n t kp _ kc pa ph.length pc w hS hf (fun w2 h => ?_)
  have := kid_on 19 nm pr k bb n t ph [y] _ (.slice pa ph.length pc) 0 y rfl ih _ (as_first 19 (by decide) (by decide)) p1.1 p1.2 h0 (by omega) (fun _ => hd) hfi hsh hTA0 hbel h
  rw [Bool.true_and, List.nil_append] at this
  exact this
theorem core_some {w0 : World} {b : Nat} (hTb : Tabs w0) {dp : Int} (h0 : 0 ≤ dp) (hd : dp ≤ 50) (nm pr : List UInt8) (k : Int) (bb : Bool) (n : Int) (t : List UInt8) (ph : List Int) (y : Tr) (ih : DOk w0 b y) (kv pv : Value) (hF : fldF 20 nm pr k bb n t ph ([y] : List Tr).length = true) (hfi : fineT (.mk 20 nm pr k bb n t ph [y])) (hsh : Short (.mk 20 nm pr k bb n t ph [y])) (hTA : TAt w0 (.mk 20 nm pr k bb n t ph [y]) kv) (hPA : PhAt w0 ph pv) (T : List UInt8) (w : World) (hbel : Below w0.heap.size w0 w) (hS : St w0.heap.size b T true [] dp w w) :
    Calls Tryz.prog 22 #[.pointer (some ⟨b, 0, none⟩), (Tr.mk 20 nm pr k bb n t ph [y]).val kv pv] w fun e w' => e = .returned (.tuple #[]) ∧ St w0.heap.size b T (okT 1 dp (.mk 20 nm pr k bb n t ph [y])) (txT 1 (.mk 20 nm pr k bb n t ph [y])) dp w w' := by
  have hTA0 := hTA
  rw [TAt] at hTA
  obtain ⟨kp, kc, rfl, hrow⟩ := hTA
  have hPA0 := hPA
  obtain ⟨pa, pc, rfl, hpath⟩ := hPA
  have hf : ∀ w1, Below w.heap.size w w1 → Calls Tryz.prog 44 #[(Tr.mk 20 nm pr k bb n t ph [y]).val (.slice kp ([y] : List Tr).length kc) (.slice pa ph.length pc)] w1 fun e w' => e = .returned (.bool true) ∧ Below w1.heap.size w1 w' := fun w1 hb1 => by
    have hb := below_on hbel hb1
    rw [fineT] at hfi
    have := rfields_any 20 nm pr k bb n t pa ph pc kp ([y] : List Tr).length kc w1 (hTb.below hb) (hpath.below hb) hfi.2.2.2.1
    unfold fldF at hF
    rw [hF] at this
    exact this
  rw [okT_one dp 20 nm pr k bb n t ph y hF (by decide), txT_one 20 nm pr k bb n t ph y rfl (by decide), show dpQ 20 = 0 from rfl, show (fmOf 20).ah = [] from rfl, show (fmOf 20).be = [32, 73, 83, 32, 78, 79, 84, 32, 78, 85, 76, 76] from rfl, List.nil_append, Int.add_zero, show decide (dp ≤ 50) = true from decide_eq_true hd, Bool.true_and]
  have p1 := form_pl 20 0 (by decide)
  refine rexpr_some nm pr k bb n t kp _ kc pa ph.length pc w hS hf (fun w2 h => ?_)
  have := kid_on 20 nm pr k bb n t ph [y] _ (.slice pa ph.length pc) 0 y rfl ih _ (as_first 20 (by decide) (by decide)) p1.1 p1.2 h0 (by omega) (fun _ => hd) hfi hsh hTA0 hbel h
  rw [Bool.true_and, List.nil_append] at this
  exact this
theorem core_length {w0 : World} {b : Nat} (hTb : Tabs w0) {dp : Int} (h0 : 0 ≤ dp) (hd : dp ≤ 50) (nm pr : List UInt8) (k : Int) (bb : Bool) (n : Int) (t : List UInt8) (ph : List Int) (y : Tr) (ih : DOk w0 b y) (kv pv : Value) (hF : fldF 21 nm pr k bb n t ph ([y] : List Tr).length = true) (hfi : fineT (.mk 21 nm pr k bb n t ph [y])) (hsh : Short (.mk 21 nm pr k bb n t ph [y])) (hTA : TAt w0 (.mk 21 nm pr k bb n t ph [y]) kv) (hPA : PhAt w0 ph pv) (T : List UInt8) (w : World) (hbel : Below w0.heap.size w0 w) (hS : St w0.heap.size b T true [] dp w w) :
    Calls Tryz.prog 22 #[.pointer (some ⟨b, 0, none⟩), (Tr.mk 21 nm pr k bb n t ph [y]).val kv pv] w fun e w' => e = .returned (.tuple #[]) ∧ St w0.heap.size b T (okT 1 dp (.mk 21 nm pr k bb n t ph [y])) (txT 1 (.mk 21 nm pr k bb n t ph [y])) dp w w' := by
  have hTA0 := hTA
  rw [TAt] at hTA
  obtain ⟨kp, kc, rfl, hrow⟩ := hTA
  have hPA0 := hPA
  obtain ⟨pa, pc, rfl, hpath⟩ := hPA
  have hf : ∀ w1, Below w.heap.size w w1 → Calls Tryz.prog 44 #[(Tr.mk 21 nm pr k bb n t ph [y]).val (.slice kp ([y] : List Tr).length kc) (.slice pa ph.length pc)] w1 fun e w' => e = .returned (.bool true) ∧ Below w1.heap.size w1 w' := fun w1 hb1 => by
    have hb := below_on hbel hb1
    rw [fineT] at hfi
    have := rfields_any 21 nm pr k bb n t pa ph pc kp ([y] : List Tr).length kc w1 (hTb.below hb) (hpath.below hb) hfi.2.2.2.1
    unfold fldF at hF
    rw [hF] at this
    exact this
  rw [okT_one dp 21 nm pr k bb n t ph y hF (by decide), txT_one 21 nm pr k bb n t ph y rfl (by decide), show dpQ 21 = 1 from rfl, show (fmOf 21).ah = [76, 69, 78, 71, 84, 72, 40] from rfl, show (fmOf 21).be = [41] from rfl, show (fmOf 21).pl.getD 0 0 = 1 from rfl]
  rcases hrow with e | ⟨g, o, rfl, hL⟩
  · exact absurd e (by simp)
  rw [fineT] at hfi
  have hfy := fineL.get [y] 0 y hfi.2.2.2.2.2 rfl
  have hsy : Short y := by
    cases hsh with
    | mk _ _ _ _ _ _ _ _ _ _ _ hk => exact hk y (by simp)
  obtain ⟨cop, cnm, cpr, ck, cb, cn, ct, cph, cks⟩ := y
  obtain ⟨ckv, cpv, hN, hPh, hTy⟩ := LAt.get [_] o 0 cop cnm cpr ck cb cn ct cph cks hL rfl
  rw [Nat.zero_mul, Nat.add_zero] at hN
  have hPh2 := hPh
  have hTy2 := hTy
  obtain ⟨ca, cc, rfl, _⟩ := hPh
  rw [TAt] at hTy
  obtain ⟨ka, kq, rfl, _⟩ := hTy
  refine rexpr_call 21 nm pr k bb n t _ _ kc pa ph.length pc w hS hf (by decide) fun w2 h => ?_
  have hb2 := hbel.trans h.kps.bel
  rw [← List.append_assoc]
  have := h.step (ok2 := decide (dp + 1 ≤ 50) && okT 1 (dp + 1) (.mk cop cnm cpr ck cb cn ct cph cks)) (Y := [76, 69, 78, 71, 84, 72, 40] ++ txT 1 (.mk cop cnm cpr ck cb cn ct cph cks) ++ [41]) (dp2 := dp) (f := 49) (ar := #[.pointer (some ⟨b, 0, none⟩), (Tr.mk 21 nm pr k bb n t ph [.mk cop cnm cpr ck cb cn ct cph cks]).val (.slice (some ⟨g, o, none⟩) 1 kc) (.slice pa ph.length pc)]) (fun e => rfl) fun T' h' => by
    refine call_length (o1 := decide (dp + 1 ≤ 50)) cop cnm cpr ck cb cn ct ka cks.length kq ca cph.length cc nm pr k bb n t g o 1 kc pa ph.length pc w2 h' (by decide) h0 (by omega) (fun w3 hK => hN.below (hb2.trans hK.bel)) (fun w3 h3 => ?_) (fun w3 h3 => ?_)
    · have := h3.downs h0 (by omega)
      rw [Bool.true_and] at this
      exact this
    · have hb3 := hb2.trans h3.kps.bel
      exact h3.step (fun e => by rw [Bool.and_eq_true] at e; exact e.1) fun T2 h4 => by
        have := ih (dp + 1) _ _ _ T2 [] w3 w3 (by omega) (by omega) (fun e => of_decide_eq_true e) hfy hsy hTy2 hPh2 hb3 h4
        exact this
  rw [List.nil_append] at this
  exact this
theorem core_count {w0 : World} {b : Nat} (hTb : Tabs w0) {dp : Int} (h0 : 0 ≤ dp) (hd : dp ≤ 50) (nm pr : List UInt8) (k : Int) (bb : Bool) (n : Int) (t : List UInt8) (ph : List Int) (y : Tr) (ih : DOk w0 b y) (kv pv : Value) (hF : fldF 22 nm pr k bb n t ph ([y] : List Tr).length = true) (hfi : fineT (.mk 22 nm pr k bb n t ph [y])) (hsh : Short (.mk 22 nm pr k bb n t ph [y])) (hTA : TAt w0 (.mk 22 nm pr k bb n t ph [y]) kv) (hPA : PhAt w0 ph pv) (T : List UInt8) (w : World) (hbel : Below w0.heap.size w0 w) (hS : St w0.heap.size b T true [] dp w w) :
    Calls Tryz.prog 22 #[.pointer (some ⟨b, 0, none⟩), (Tr.mk 22 nm pr k bb n t ph [y]).val kv pv] w fun e w' => e = .returned (.tuple #[]) ∧ St w0.heap.size b T (okT 1 dp (.mk 22 nm pr k bb n t ph [y])) (txT 1 (.mk 22 nm pr k bb n t ph [y])) dp w w' := by
  have hTA0 := hTA
  rw [TAt] at hTA
  obtain ⟨kp, kc, rfl, hrow⟩ := hTA
  have hPA0 := hPA
  obtain ⟨pa, pc, rfl, hpath⟩ := hPA
  have hf : ∀ w1, Below w.heap.size w w1 → Calls Tryz.prog 44 #[(Tr.mk 22 nm pr k bb n t ph [y]).val (.slice kp ([y] : List Tr).length kc) (.slice pa ph.length pc)] w1 fun e w' => e = .returned (.bool true) ∧ Below w1.heap.size w1 w' := fun w1 hb1 => by
    have hb := below_on hbel hb1
    rw [fineT] at hfi
    have := rfields_any 22 nm pr k bb n t pa ph pc kp ([y] : List Tr).length kc w1 (hTb.below hb) (hpath.below hb) hfi.2.2.2.1
    unfold fldF at hF
    rw [hF] at this
    exact this
  rw [okT_one dp 22 nm pr k bb n t ph y hF (by decide), txT_one 22 nm pr k bb n t ph y rfl (by decide), show dpQ 22 = 1 from rfl, show (fmOf 22).ah = [67, 79, 85, 78, 84, 40] from rfl, show (fmOf 22).be = [41] from rfl, show (fmOf 22).pl.getD 0 0 = 1 from rfl]
  rcases hrow with e | ⟨g, o, rfl, hL⟩
  · exact absurd e (by simp)
  rw [fineT] at hfi
  have hfy := fineL.get [y] 0 y hfi.2.2.2.2.2 rfl
  have hsy : Short y := by
    cases hsh with
    | mk _ _ _ _ _ _ _ _ _ _ _ hk => exact hk y (by simp)
  obtain ⟨cop, cnm, cpr, ck, cb, cn, ct, cph, cks⟩ := y
  obtain ⟨ckv, cpv, hN, hPh, hTy⟩ := LAt.get [_] o 0 cop cnm cpr ck cb cn ct cph cks hL rfl
  rw [Nat.zero_mul, Nat.add_zero] at hN
  have hPh2 := hPh
  have hTy2 := hTy
  obtain ⟨ca, cc, rfl, _⟩ := hPh
  rw [TAt] at hTy
  obtain ⟨ka, kq, rfl, _⟩ := hTy
  refine rexpr_call 22 nm pr k bb n t _ _ kc pa ph.length pc w hS hf (by decide) fun w2 h => ?_
  have hb2 := hbel.trans h.kps.bel
  rw [← List.append_assoc]
  have := h.step (ok2 := decide (dp + 1 ≤ 50) && okT 1 (dp + 1) (.mk cop cnm cpr ck cb cn ct cph cks)) (Y := [67, 79, 85, 78, 84, 40] ++ txT 1 (.mk cop cnm cpr ck cb cn ct cph cks) ++ [41]) (dp2 := dp) (f := 49) (ar := #[.pointer (some ⟨b, 0, none⟩), (Tr.mk 22 nm pr k bb n t ph [.mk cop cnm cpr ck cb cn ct cph cks]).val (.slice (some ⟨g, o, none⟩) 1 kc) (.slice pa ph.length pc)]) (fun e => rfl) fun T' h' => by
    refine call_count (o1 := decide (dp + 1 ≤ 50)) cop cnm cpr ck cb cn ct ka cks.length kq ca cph.length cc nm pr k bb n t g o 1 kc pa ph.length pc w2 h' (by decide) h0 (by omega) (fun w3 hK => hN.below (hb2.trans hK.bel)) (fun w3 h3 => ?_) (fun w3 h3 => ?_)
    · have := h3.downs h0 (by omega)
      rw [Bool.true_and] at this
      exact this
    · have hb3 := hb2.trans h3.kps.bel
      exact h3.step (fun e => by rw [Bool.and_eq_true] at e; exact e.1) fun T2 h4 => by
        have := ih (dp + 1) _ _ _ T2 [] w3 w3 (by omega) (by omega) (fun e => of_decide_eq_true e) hfy hsy hTy2 hPh2 hb3 h4
        exact this
  rw [List.nil_append] at this
  exact this
theorem core_sum {w0 : World} {b : Nat} (hTb : Tabs w0) {dp : Int} (h0 : 0 ≤ dp) (hd : dp ≤ 50) (nm pr : List UInt8) (k : Int) (bb : Bool) (n : Int) (t : List UInt8) (ph : List Int) (y : Tr) (ih : DOk w0 b y) (kv pv : Value) (hF : fldF 23 nm pr k bb n t ph ([y] : List Tr).length = true) (hfi : fineT (.mk 23 nm pr k bb n t ph [y])) (hsh : Short (.mk 23 nm pr k bb n t ph [y])) (hTA : TAt w0 (.mk 23 nm pr k bb n t ph [y]) kv) (hPA : PhAt w0 ph pv) (T : List UInt8) (w : World) (hbel : Below w0.heap.size w0 w) (hS : St w0.heap.size b T true [] dp w w) :
    Calls Tryz.prog 22 #[.pointer (some ⟨b, 0, none⟩), (Tr.mk 23 nm pr k bb n t ph [y]).val kv pv] w fun e w' => e = .returned (.tuple #[]) ∧ St w0.heap.size b T (okT 1 dp (.mk 23 nm pr k bb n t ph [y])) (txT 1 (.mk 23 nm pr k bb n t ph [y])) dp w w' := by
  have hTA0 := hTA
  rw [TAt] at hTA
  obtain ⟨kp, kc, rfl, hrow⟩ := hTA
  have hPA0 := hPA
  obtain ⟨pa, pc, rfl, hpath⟩ := hPA
  have hf : ∀ w1, Below w.heap.size w w1 → Calls Tryz.prog 44 #[(Tr.mk 23 nm pr k bb n t ph [y]).val (.slice kp ([y] : List Tr).length kc) (.slice pa ph.length pc)] w1 fun e w' => e = .returned (.bool true) ∧ Below w1.heap.size w1 w' := fun w1 hb1 => by
    have hb := below_on hbel hb1
    rw [fineT] at hfi
    have := rfields_any 23 nm pr k bb n t pa ph pc kp ([y] : List Tr).length kc w1 (hTb.below hb) (hpath.below hb) hfi.2.2.2.1
    unfold fldF at hF
    rw [hF] at this
    exact this
  rw [okT_one dp 23 nm pr k bb n t ph y hF (by decide), txT_one 23 nm pr k bb n t ph y rfl (by decide), show dpQ 23 = 1 from rfl, show (fmOf 23).ah = [83, 85, 77, 40] from rfl, show (fmOf 23).be = [41] from rfl, show (fmOf 23).pl.getD 0 0 = 1 from rfl]
  rcases hrow with e | ⟨g, o, rfl, hL⟩
  · exact absurd e (by simp)
  rw [fineT] at hfi
  have hfy := fineL.get [y] 0 y hfi.2.2.2.2.2 rfl
  have hsy : Short y := by
    cases hsh with
    | mk _ _ _ _ _ _ _ _ _ _ _ hk => exact hk y (by simp)
  obtain ⟨cop, cnm, cpr, ck, cb, cn, ct, cph, cks⟩ := y
  obtain ⟨ckv, cpv, hN, hPh, hTy⟩ := LAt.get [_] o 0 cop cnm cpr ck cb cn ct cph cks hL rfl
  rw [Nat.zero_mul, Nat.add_zero] at hN
  have hPh2 := hPh
  have hTy2 := hTy
  obtain ⟨ca, cc, rfl, _⟩ := hPh
  rw [TAt] at hTy
  obtain ⟨ka, kq, rfl, _⟩ := hTy
  refine rexpr_call 23 nm pr k bb n t _ _ kc pa ph.length pc w hS hf (by decide) fun w2 h => ?_
  have hb2 := hbel.trans h.kps.bel
  rw [← List.append_assoc]
  have := h.step (ok2 := decide (dp + 1 ≤ 50) && okT 1 (dp + 1) (.mk cop cnm cpr ck cb cn ct cph cks)) (Y := [83, 85, 77, 40] ++ txT 1 (.mk cop cnm cpr ck cb cn ct cph cks) ++ [41]) (dp2 := dp) (f := 49) (ar := #[.pointer (some ⟨b, 0, none⟩), (Tr.mk 23 nm pr k bb n t ph [.mk cop cnm cpr ck cb cn ct cph cks]).val (.slice (some ⟨g, o, none⟩) 1 kc) (.slice pa ph.length pc)]) (fun e => rfl) fun T' h' => by
    refine call_sum (o1 := decide (dp + 1 ≤ 50)) cop cnm cpr ck cb cn ct ka cks.length kq ca cph.length cc nm pr k bb n t g o 1 kc pa ph.length pc w2 h' (by decide) h0 (by omega) (fun w3 hK => hN.below (hb2.trans hK.bel)) (fun w3 h3 => ?_) (fun w3 h3 => ?_)
    · have := h3.downs h0 (by omega)
      rw [Bool.true_and] at this
      exact this
    · have hb3 := hb2.trans h3.kps.bel
      exact h3.step (fun e => by rw [Bool.and_eq_true] at e; exact e.1) fun T2 h4 => by
        have := ih (dp + 1) _ _ _ T2 [] w3 w3 (by omega) (by omega) (fun e => of_decide_eq_true e) hfy hsy hTy2 hPh2 hb3 h4
        exact this
  rw [List.nil_append] at this
  exact this
theorem core_min {w0 : World} {b : Nat} (hTb : Tabs w0) {dp : Int} (h0 : 0 ≤ dp) (hd : dp ≤ 50) (nm pr : List UInt8) (k : Int) (bb : Bool) (n : Int) (t : List UInt8) (ph : List Int) (y : Tr) (ih : DOk w0 b y) (kv pv : Value) (hF : fldF 24 nm pr k bb n t ph ([y] : List Tr).length = true) (hfi : fineT (.mk 24 nm pr k bb n t ph [y])) (hsh : Short (.mk 24 nm pr k bb n t ph [y])) (hTA : TAt w0 (.mk 24 nm pr k bb n t ph [y]) kv) (hPA : PhAt w0 ph pv) (T : List UInt8) (w : World) (hbel : Below w0.heap.size w0 w) (hS : St w0.heap.size b T true [] dp w w) :
    Calls Tryz.prog 22 #[.pointer (some ⟨b, 0, none⟩), (Tr.mk 24 nm pr k bb n t ph [y]).val kv pv] w fun e w' => e = .returned (.tuple #[]) ∧ St w0.heap.size b T (okT 1 dp (.mk 24 nm pr k bb n t ph [y])) (txT 1 (.mk 24 nm pr k bb n t ph [y])) dp w w' := by
  have hTA0 := hTA
  rw [TAt] at hTA
  obtain ⟨kp, kc, rfl, hrow⟩ := hTA
  have hPA0 := hPA
  obtain ⟨pa, pc, rfl, hpath⟩ := hPA
  have hf : ∀ w1, Below w.heap.size w w1 → Calls Tryz.prog 44 #[(Tr.mk 24 nm pr k bb n t ph [y]).val (.slice kp ([y] : List Tr).length kc) (.slice pa ph.length pc)] w1 fun e w' => e = .returned (.bool true) ∧ Below w1.heap.size w1 w' := fun w1 hb1 => by
    have hb := below_on hbel hb1
    rw [fineT] at hfi
    have := rfields_any 24 nm pr k bb n t pa ph pc kp ([y] : List Tr).length kc w1 (hTb.below hb) (hpath.below hb) hfi.2.2.2.1
    unfold fldF at hF
    rw [hF] at this
    exact this
  rw [okT_one dp 24 nm pr k bb n t ph y hF (by decide), txT_one 24 nm pr k bb n t ph y rfl (by decide), show dpQ 24 = 1 from rfl, show (fmOf 24).ah = [77, 73, 78, 40] from rfl, show (fmOf 24).be = [41] from rfl, show (fmOf 24).pl.getD 0 0 = 1 from rfl]
  rcases hrow with e | ⟨g, o, rfl, hL⟩
  · exact absurd e (by simp)
  rw [fineT] at hfi
  have hfy := fineL.get [y] 0 y hfi.2.2.2.2.2 rfl
  have hsy : Short y := by
    cases hsh with
    | mk _ _ _ _ _ _ _ _ _ _ _ hk => exact hk y (by simp)
  obtain ⟨cop, cnm, cpr, ck, cb, cn, ct, cph, cks⟩ := y
  obtain ⟨ckv, cpv, hN, hPh, hTy⟩ := LAt.get [_] o 0 cop cnm cpr ck cb cn ct cph cks hL rfl
  rw [Nat.zero_mul, Nat.add_zero] at hN
  have hPh2 := hPh
  have hTy2 := hTy
  obtain ⟨ca, cc, rfl, _⟩ := hPh
  rw [TAt] at hTy
  obtain ⟨ka, kq, rfl, _⟩ := hTy
  refine rexpr_call 24 nm pr k bb n t _ _ kc pa ph.length pc w hS hf (by decide) fun w2 h => ?_
  have hb2 := hbel.trans h.kps.bel
  rw [← List.append_assoc]
  have := h.step (ok2 := decide (dp + 1 ≤ 50) && okT 1 (dp + 1) (.mk cop cnm cpr ck cb cn ct cph cks)) (Y := [77, 73, 78, 40] ++ txT 1 (.mk cop cnm cpr ck cb cn ct cph cks) ++ [41]) (dp2 := dp) (f := 49) (ar := #[.pointer (some ⟨b, 0, none⟩), (Tr.mk 24 nm pr k bb n t ph [.mk cop cnm cpr ck cb cn ct cph cks]).val (.slice (some ⟨g, o, none⟩) 1 kc) (.slice pa ph.length pc)]) (fun e => rfl) fun T' h' => by
    refine call_min (o1 := decide (dp + 1 ≤ 50)) cop cnm cpr ck cb cn ct ka cks.length kq ca cph.length cc nm pr k bb n t g o 1 kc pa ph.length pc w2 h' (by decide) h0 (by omega) (fun w3 hK => hN.below (hb2.trans hK.bel)) (fun w3 h3 => ?_) (fun w3 h3 => ?_)
    · have := h3.downs h0 (by omega)
      rw [Bool.true_and] at this
      exact this
    · have hb3 := hb2.trans h3.kps.bel
      exact h3.step (fun e => by rw [Bool.and_eq_true] at e; exact e.1) fun T2 h4 => by
        have := ih (dp + 1) _ _ _ T2 [] w3 w3 (by omega) (by omega) (fun e => of_decide_eq_true e) hfy hsy hTy2 hPh2 hb3 h4
        exact this
  rw [List.nil_append] at this
  exact this
theorem core_max {w0 : World} {b : Nat} (hTb : Tabs w0) {dp : Int} (h0 : 0 ≤ dp) (hd : dp ≤ 50) (nm pr : List UInt8) (k : Int) (bb : Bool) (n : Int) (t : List UInt8) (ph : List Int) (y : Tr) (ih : DOk w0 b y) (kv pv : Value) (hF : fldF 25 nm pr k bb n t ph ([y] : List Tr).length = true) (hfi : fineT (.mk 25 nm pr k bb n t ph [y])) (hsh : Short (.mk 25 nm pr k bb n t ph [y])) (hTA : TAt w0 (.mk 25 nm pr k bb n t ph [y]) kv) (hPA : PhAt w0 ph pv) (T : List UInt8) (w : World) (hbel : Below w0.heap.size w0 w) (hS : St w0.heap.size b T true [] dp w w) :
    Calls Tryz.prog 22 #[.pointer (some ⟨b, 0, none⟩), (Tr.mk 25 nm pr k bb n t ph [y]).val kv pv] w fun e w' => e = .returned (.tuple #[]) ∧ St w0.heap.size b T (okT 1 dp (.mk 25 nm pr k bb n t ph [y])) (txT 1 (.mk 25 nm pr k bb n t ph [y])) dp w w' := by
  have hTA0 := hTA
  rw [TAt] at hTA
  obtain ⟨kp, kc, rfl, hrow⟩ := hTA
  have hPA0 := hPA
  obtain ⟨pa, pc, rfl, hpath⟩ := hPA
  have hf : ∀ w1, Below w.heap.size w w1 → Calls Tryz.prog 44 #[(Tr.mk 25 nm pr k bb n t ph [y]).val (.slice kp ([y] : List Tr).length kc) (.slice pa ph.length pc)] w1 fun e w' => e = .returned (.bool true) ∧ Below w1.heap.size w1 w' := fun w1 hb1 => by
    have hb := below_on hbel hb1
    rw [fineT] at hfi
    have := rfields_any 25 nm pr k bb n t pa ph pc kp ([y] : List Tr).length kc w1 (hTb.below hb) (hpath.below hb) hfi.2.2.2.1
    unfold fldF at hF
    rw [hF] at this
    exact this
  rw [okT_one dp 25 nm pr k bb n t ph y hF (by decide), txT_one 25 nm pr k bb n t ph y rfl (by decide), show dpQ 25 = 1 from rfl, show (fmOf 25).ah = [77, 65, 88, 40] from rfl, show (fmOf 25).be = [41] from rfl, show (fmOf 25).pl.getD 0 0 = 1 from rfl]
  rcases hrow with e | ⟨g, o, rfl, hL⟩
  · exact absurd e (by simp)
  rw [fineT] at hfi
  have hfy := fineL.get [y] 0 y hfi.2.2.2.2.2 rfl
  have hsy : Short y := by
    cases hsh with
    | mk _ _ _ _ _ _ _ _ _ _ _ hk => exact hk y (by simp)
  obtain ⟨cop, cnm, cpr, ck, cb, cn, ct, cph, cks⟩ := y
  obtain ⟨ckv, cpv, hN, hPh, hTy⟩ := LAt.get [_] o 0 cop cnm cpr ck cb cn ct cph cks hL rfl
  rw [Nat.zero_mul, Nat.add_zero] at hN
  have hPh2 := hPh
  have hTy2 := hTy
  obtain ⟨ca, cc, rfl, _⟩ := hPh
  rw [TAt] at hTy
  obtain ⟨ka, kq, rfl, _⟩ := hTy
  refine rexpr_call 25 nm pr k bb n t _ _ kc pa ph.length pc w hS hf (by decide) fun w2 h => ?_
  have hb2 := hbel.trans h.kps.bel
  rw [← List.append_assoc]
  have := h.step (ok2 := decide (dp + 1 ≤ 50) && okT 1 (dp + 1) (.mk cop cnm cpr ck cb cn ct cph cks)) (Y := [77, 65, 88, 40] ++ txT 1 (.mk cop cnm cpr ck cb cn ct cph cks) ++ [41]) (dp2 := dp) (f := 49) (ar := #[.pointer (some ⟨b, 0, none⟩), (Tr.mk 25 nm pr k bb n t ph [.mk cop cnm cpr ck cb cn ct cph cks]).val (.slice (some ⟨g, o, none⟩) 1 kc) (.slice pa ph.length pc)]) (fun e => rfl) fun T' h' => by
    refine call_max (o1 := decide (dp + 1 ≤ 50)) cop cnm cpr ck cb cn ct ka cks.length kq ca cph.length cc nm pr k bb n t g o 1 kc pa ph.length pc w2 h' (by decide) h0 (by omega) (fun w3 hK => hN.below (hb2.trans hK.bel)) (fun w3 h3 => ?_) (fun w3 h3 => ?_)
    · have := h3.downs h0 (by omega)
      rw [Bool.true_and] at this
      exact this
    · have hb3 := hb2.trans h3.kps.bel
      exact h3.step (fun e => by rw [Bool.and_eq_true] at e; exact e.1) fun T2 h4 => by
        have := ih (dp + 1) _ _ _ T2 [] w3 w3 (by omega) (by omega) (fun e => of_decide_eq_true e) hfy hsy hTy2 hPh2 hb3 h4
        exact this
  rw [List.nil_append] at this
  exact this
theorem core_star {w0 : World} {b : Nat} (hTb : Tabs w0) {dp : Int} (h0 : 0 ≤ dp) (hd : dp ≤ 50) (nm pr : List UInt8) (k : Int) (bb : Bool) (n : Int) (t : List UInt8) (ph : List Int) (kv pv : Value) (hF : fldF 26 nm pr k bb n t ph ([] : List Tr).length = true) (hfi : fineT (.mk 26 nm pr k bb n t ph [])) (hsh : Short (.mk 26 nm pr k bb n t ph [])) (hTA : TAt w0 (.mk 26 nm pr k bb n t ph []) kv) (hPA : PhAt w0 ph pv) (T : List UInt8) (w : World) (hbel : Below w0.heap.size w0 w) (hS : St w0.heap.size b T true [] dp w w) :
    Calls Tryz.prog 22 #[.pointer (some ⟨b, 0, none⟩), (Tr.mk 26 nm pr k bb n t ph []).val kv pv] w fun e w' => e = .returned (.tuple #[]) ∧ St w0.heap.size b T (okT 1 dp (.mk 26 nm pr k bb n t ph [])) (txT 1 (.mk 26 nm pr k bb n t ph [])) dp w w' := by
  have hTA0 := hTA
  rw [TAt] at hTA
  obtain ⟨kp, kc, rfl, hrow⟩ := hTA
  have hPA0 := hPA
  obtain ⟨pa, pc, rfl, hpath⟩ := hPA
  have hf : ∀ w1, Below w.heap.size w w1 → Calls Tryz.prog 44 #[(Tr.mk 26 nm pr k bb n t ph []).val (.slice kp ([] : List Tr).length kc) (.slice pa ph.length pc)] w1 fun e w' => e = .returned (.bool true) ∧ Below w1.heap.size w1 w' := fun w1 hb1 => by
    have hb := below_on hbel hb1
    rw [fineT] at hfi
    have := rfields_any 26 nm pr k bb n t pa ph pc kp ([] : List Tr).length kc w1 (hTb.below hb) (hpath.below hb) hfi.2.2.2.1
    unfold fldF at hF
    rw [hF] at this
    exact this
  have e1 : okT 1 dp (.mk 26 nm pr k bb n t ph []) = decide (dp + 1 ≤ 50) := by
    rw [okT_at dp 26 nm pr k bb n t ph [] hF, okK]
    simp only [show nmsB 26 nm pr = true from rfl, show dpQ 26 = 1 from rfl]
    simp
  have e2 : txT 1 (.mk 26 nm pr k bb n t ph []) = [67, 79, 85, 78, 84, 40] ++ [42] ++ [41] := by
    rw [txT_at 26 nm pr k bb n t ph [] rfl, txK]
    rfl
  rw [e1, e2]
  refine rexpr_call 26 nm pr k bb n t kp _ kc pa ph.length pc w hS hf (by decide) fun w2 h => ?_
  have := h.step (ok2 := decide (dp + 1 ≤ 50)) (Y := [67, 79, 85, 78, 84, 40] ++ [42] ++ [41]) (dp2 := dp) (f := 49) (ar := #[.pointer (some ⟨b, 0, none⟩), (Tr.mk 26 nm pr k bb n t ph []).val (.slice kp 0 kc) (.slice pa ph.length pc)]) (fun e => rfl) fun T' h' => by
    refine call_star (o1 := decide (dp + 1 ≤ 50)) nm pr k bb n t kp 0 kc pa ph.length pc w2 h' h0 (by omega) (fun w3 h3 => ?_)
    have := h3.downs h0 (by omega)
    rw [Bool.true_and] at this
    exact this
  rw [List.nil_append] at this
  exact this
theorem one_of {l : List Tr} (h : l.length = 1) : ∃ y, l = [y] := by
  rcases l with _ | ⟨y, _ | ⟨z, l⟩⟩
  · simp at h
  · exact ⟨y, rfl⟩
  · simp at h
theorem two_of {l : List Tr} (h : l.length = 2) : ∃ y z, l = [y, z] := by
  rcases l with _ | ⟨y, _ | ⟨z, _ | ⟨u, l⟩⟩⟩
  · simp at h
  · simp at h
  · exact ⟨y, z, rfl⟩
  · simp at h
/-- expr of any expression whose fields are right, while all is right. -/
theorem core_any {w0 : World} {b : Nat} (hTb : Tabs w0) {dp : Int} (h0 : 0 ≤ dp) (hd : dp ≤ 50) (op : Int) (nm pr : List UInt8) (k : Int) (bb : Bool) (n : Int) (t : List UInt8) (ph : List Int) (ks : List Tr) (ih : ∀ y ∈ ks, DOk w0 b y) (kv pv : Value) (hF : fldF op nm pr k bb n t ph (ks : List Tr).length = true) (hfi : fineT (.mk op nm pr k bb n t ph ks)) (hsh : Short (.mk op nm pr k bb n t ph ks)) (hTA : TAt w0 (.mk op nm pr k bb n t ph ks) kv) (hPA : PhAt w0 ph pv) (T : List UInt8) (w : World) (hbel : Below w0.heap.size w0 w) (hS : St w0.heap.size b T true [] dp w w) :
    Calls Tryz.prog 22 #[.pointer (some ⟨b, 0, none⟩), (Tr.mk op nm pr k bb n t ph ks).val kv pv] w fun e w' => e = .returned (.tuple #[]) ∧ St w0.heap.size b T (okT 1 dp (.mk op nm pr k bb n t ph ks)) (txT 1 (.mk op nm pr k bb n t ph ks)) dp w w' := by
  have hF2 := hF
  unfold fldF at hF2
  simp only [Bool.and_eq_true, decide_eq_true_iff] at hF2
  obtain ⟨⟨ho, hk⟩, _⟩ := hF2
  rw [kidN_is op ho] at hk
  unfold isOp at ho
  rw [Bool.and_eq_true, decide_eq_true_iff, decide_eq_true_iff] at ho
  obtain ⟨m, rfl⟩ : ∃ m : Nat, op = (m : Int) := ⟨op.toNat, by omega⟩
  by_cases h2 : 4 ≤ m ∧ m ≤ 16
  · obtain ⟨y, z, rfl⟩ := two_of (l := ks) (by rw [hk]; unfold kidN; rw [if_pos (by omega)])
    exact core_two m h2.1 h2.2 hTb h0 hd nm pr k bb n t ph y z (ih y (by simp)) (ih z (by simp)) kv pv hF hfi hsh hTA hPA T w hbel hS
  by_cases h3 : 17 ≤ m ∧ m ≤ 25
  · obtain ⟨y, rfl⟩ := one_of (l := ks) (by rw [hk]; unfold kidN; rw [if_neg (by omega), if_pos (by omega)])
    have hc : m = 17 ∨ m = 18 ∨ m = 19 ∨ m = 20 ∨ m = 21 ∨ m = 22 ∨ m = 23 ∨ m = 24 ∨ m = 25 := by omega
    have ihy := ih y (by simp)
    rcases hc with rfl | rfl | rfl | rfl | rfl | rfl | rfl | rfl | rfl
    · exact core_not hTb h0 hd nm pr k bb n t ph y ihy kv pv hF hfi hsh hTA hPA T w hbel hS
    · exact core_neg hTb h0 hd nm pr k bb n t ph y ihy kv pv hF hfi hsh hTA hPA T w hbel hS
    · exact core_null hTb h0 hd nm pr k bb n t ph y ihy kv pv hF hfi hsh hTA hPA T w hbel hS
    · exact core_some hTb h0 hd nm pr k bb n t ph y ihy kv pv hF hfi hsh hTA hPA T w hbel hS
    · exact core_length hTb h0 hd nm pr k bb n t ph y ihy kv pv hF hfi hsh hTA hPA T w hbel hS
    · exact core_count hTb h0 hd nm pr k bb n t ph y ihy kv pv hF hfi hsh hTA hPA T w hbel hS
    · exact core_sum hTb h0 hd nm pr k bb n t ph y ihy kv pv hF hfi hsh hTA hPA T w hbel hS
    · exact core_min hTb h0 hd nm pr k bb n t ph y ihy kv pv hF hfi hsh hTA hPA T w hbel hS
    · exact core_max hTb h0 hd nm pr k bb n t ph y ihy kv pv hF hfi hsh hTA hPA T w hbel hS
  obtain rfl : ks = [] := List.length_eq_zero_iff.1 (by rw [hk]; unfold kidN; rw [if_neg (by omega), if_neg (by omega)])
  have hc : m = 1 ∨ m = 2 ∨ m = 3 ∨ m = 26 := by omega
  rcases hc with rfl | rfl | rfl | rfl
  · exact core_lit hTb h0 hd nm pr k bb n t ph kv pv hF hfi hsh hTA hPA T w hbel hS
  · exact core_var hTb h0 hd nm pr k bb n t ph kv pv hF hfi hsh hTA hPA T w hbel hS
  · exact core_prop hTb h0 hd nm pr k bb n t ph kv pv hF hfi hsh hTA hPA T w hbel hS
  · exact core_star hTb h0 hd nm pr k bb n t ph kv pv hF hfi hsh hTA hPA T w hbel hS
/-- expr of any expression. -/
theorem dok_any {w0 : World} {b : Nat} (hTb : Tabs w0) (x : Tr) : DOk w0 b x := by
  refine Tr.ind (P := fun x => DOk w0 b x) (fun op nm pr k bb n t ph ks ih => ?_) x
  intro dp ok kv pv T X w w1 h0 h1 h2 hfi hsh hTA hPA hbel hS
  have hb1 := hbel.trans hS.kps.bel
  cases hG : (ok && fldF op nm pr k bb n t ph ks.length)
  · have e1 : (ok && okT 1 dp (.mk op nm pr k bb n t ph ks)) = false := by
      rw [okT_is]
      unfold fldF at hG
      cases ok
      · rfl
      · rw [Bool.true_and] at hG
        rw [hG]
        rfl
    rw [e1]
    have hTA0 := hTA
    rw [TAt] at hTA0
    obtain ⟨kp, kc, rfl, _⟩ := hTA0
    have hPA0 := hPA
    obtain ⟨pa, pc, rfl, hpath⟩ := hPA0
    replace hpath : V2.PathAt w0 pa ph := hpath
    obtain ⟨hB, hk, T', hW, _⟩ := hS
    rw [fineT] at hfi
    have hz := Nat.le_trans hB hk.size
    refine (rexpr_shut op nm pr k bb n t kp ks.length kc pa ph.length pc w1 hW hz (fldF op nm pr k bb n t ph ks.length) (fun w2 hb2 => ?_) ?_).mono ?_
    · have hb := below_on hb1 hb2
      exact rfields_any op nm pr k bb n t pa ph pc kp ks.length kc w2 (hTb.below hb) (hpath.below hb) hfi.2.2.2.1
    · cases ok
      · exact .inl rfl
      · rw [Bool.true_and] at hG
        exact .inr hG
    · rintro e w' ⟨rfl, hW', hK'⟩
      exact ⟨rfl, hB, hk.trans hK', T', hW', fun e => by cases e⟩
  · rw [Bool.and_eq_true] at hG
    obtain ⟨rfl, hF⟩ := hG
    rw [Bool.true_and]
    refine (hS.step (ok2 := okT 1 dp (.mk op nm pr k bb n t ph ks)) (Y := txT 1 (.mk op nm pr k bb n t ph ks)) (dp2 := dp) (fun _ => rfl) fun T' h' => core_any hTb h0 (h2 rfl) op nm pr k bb n t ph ks ih kv pv hF hfi hsh hTA hPA T' w1 hb1 h').mono ?_
    rintro e w' ⟨rfl, _, h⟩
    exact ⟨rfl, h⟩
end Go.Proofs.YtkcnpbckmdgfnaaGreatDoor
namespace Go.Proofs.YtkcnpbckmdgfnaaGreatDoor
open Go.ChangeShapes Go.WideShapes Go.ChangeAt Go.RowKit
set_option linter.unusedSimpArgs false
set_option linter.unusedVariables false

theorem start_writer {w : World} {B b : Nat} (hb : b = w.heap.size) (hB : B ≤ b) : WAt B b [] 0 false (w.alloc (.cells #[.slice none 0 0, .int .i64 0, .bool false] 62)) := by
  subst hb
  exact ⟨hB, .slice none 0 0, [], heap_alloc_new w _, Wq.nil, World.ownsRow_nil _ _ _ _⟩
set_option maxRecDepth 100000 in
set_option maxHeartbeats 2000000 in
theorem rprint_any (x : Tr) (kv pv : Value) (w : World) (hTb : Tabs w) (hfine : fineT x) (hsh : Short x) (hTA : TAt w x kv) (hPA : PhAt w x.ph pv) :
    Calls Tryz.prog 16 #[x.val kv pv] w fun e w' => e = .returned (.tuple #[.string (txt (prT x).1), .int .i64 (prT x).2]) ∧ Below w.heap.size w w' := by
  obtain ⟨op, nm, pr, k, bb, n, t, ph, ks⟩ := x
  have hTA0 := hTA
  rw [TAt] at hTA0
  obtain ⟨kp, kc, rfl, _⟩ := hTA0
  have hPA0 := hPA
  obtain ⟨pa, pc, rfl, _⟩ := hPA0
  have eph : (Tr.mk op nm pr k bb n t ph ks).ph = ph := rfl
  rw [eph] at hPA ⊢
  unfold Tr.val
  dsimp only
  have b1 := below_new w (.cells #[.int .i64 op, .slice kp ks.length kc, .string (txt nm), .string (txt pr), .int .i64 k, .bool bb, .int .i64 n, .string (txt t), .slice pa ph.length pc] 39)
  have b2 := below_new (w.alloc (.cells #[.int .i64 op, .slice kp ks.length kc, .string (txt nm), .string (txt pr), .int .i64 k, .bool bb, .int .i64 n, .string (txt t), .slice pa ph.length pc] 39)) (.cells #[.slice none 0 0, .int .i64 0, .bool false] 62)
  have z1 : (w.alloc (.cells #[.int .i64 op, .slice kp ks.length kc, .string (txt nm), .string (txt pr), .int .i64 k, .bool bb, .int .i64 n, .string (txt t), .slice pa ph.length pc] 39)).heap.size = w.heap.size + 1 := by simp
  have hbb := below_on b1 b2
  have hz : w.heap.size ≤ ((w.alloc (.cells #[.int .i64 op, .slice kp ks.length kc, .string (txt nm), .string (txt pr), .int .i64 k, .bool bb, .int .i64 n, .string (txt t), .slice pa ph.length pc] 39)).alloc (.cells #[.slice none 0 0, .int .i64 0, .bool false] 62)).heap.size := hbb.size
  have hW := start_writer (w := (w.alloc (.cells #[.int .i64 op, .slice kp ks.length kc, .string (txt nm), .string (txt pr), .int .i64 k, .bool bb, .int .i64 n, .string (txt t), .slice pa ph.length pc] 39))) (B := w.heap.size) (b := w.heap.size + 1) z1.symm (by omega)
  have hD := fun (_ : Unit) => dok_any hTb (b := w.heap.size + 1) (.mk op nm pr k bb n t ph ks) 0 true _ _ [] [] _ _ (by decide) (by decide) (fun _ => by decide) hfine hsh hTA hPA hbb (St.start hz hW)
  unfold Tr.val at hD
  dsimp only at hD
  have n1 := (b2.block w.heap.size (by omega)).trans (heap_alloc_new w (.cells #[.int .i64 op, .slice kp ks.length kc, .string (txt nm), .string (txt pr), .int .i64 k, .bool bb, .int .i64 n, .string (txt t), .slice pa ph.length pc] 39))
  have y0 := box_cell n1 0
  have y1 := box_cell n1 1
  have y2 := box_cell n1 2
  have y3 := box_cell n1 3
  have y4 := box_cell n1 4
  have y5 := box_cell n1 5
  have y6 := box_cell n1 6
  have y7 := box_cell n1 7
  have y8 := box_cell n1 8
  simp only [List.getElem?_toArray, List.getElem?_cons_zero, List.getElem?_cons_succ] at y0 y1 y2 y3 y4 y5 y6 y7 y8
  rw [Bool.true_and, List.nil_append] at hD
  have hfin : ∀ (w1 : World) (T1 : List UInt8), WAt w.heap.size (w.heap.size + 1) T1 0 (!okT 1 0 (.mk op nm pr k bb n t ph ks)) w1 → (okT 1 0 (.mk op nm pr k bb n t ph ks) = true → T1 = [] ++ txT 1 (.mk op nm pr k bb n t ph ks)) →
      Calls Tryz.prog 25 #[.pointer (some ⟨w.heap.size + 1, 0, none⟩)] w1 fun e w' => e = .returned (.tuple #[.string (txt (prT (.mk op nm pr k bb n t ph ks)).1), .int .i64 (prT (.mk op nm pr k bb n t ph ks)).2]) ∧ Below w1.heap.size w1 w' := by
    intro w1 T1 h1 h2
    have h3 := rdone_any w1 h1
    have e1 : doneT (!okT 1 0 (.mk op nm pr k bb n t ph ks)) T1 = (prT (.mk op nm pr k bb n t ph ks)).1 ∧ doneE (!okT 1 0 (.mk op nm pr k bb n t ph ks)) T1 = (prT (.mk op nm pr k bb n t ph ks)).2 := by
      unfold prT doneT doneE
      cases hq : okT 1 0 (.mk op nm pr k bb n t ph ks)
      · exact ⟨rfl, rfl⟩
      · have := h2 hq
        rw [List.nil_append] at this
        subst this
        by_cases h4 : (txT 1 (.mk op nm pr k bb n t ph ks)).length ≤ 4096
        · simp [h4]
        · simp [h4]
    rw [e1.1, e1.2] at h3
    exact h3
  generalize txt (prT (.mk op nm pr k bb n t ph ks)).1 = AN at *
  generalize (prT (.mk op nm pr k bb n t ph ks)).2 = AE at *
  generalize okT 1 0 (.mk op nm pr k bb n t ph ks) = oK at *
  generalize txT 1 (.mk op nm pr k bb n t ph ks) = TX at *
  replace hD : Hid _ := hD
  replace hfin : Hid _ := hfin
  replace hbb : Hid _ := hbb
  replace hW : Hid _ := hW
  clear b1 b2 n1 hTb hfine hsh hTA hPA
  go_enter Tryz.func16, Tryz.ntmps16
  go_wp2_with fail
  go_at_call 22
  refine Calls.mono (hD.out ()) ?_
  rintro e w1 ⟨rfl, hB1, hK1, T1, hW1, hT1⟩
  have hh := hfin.out w1 T1 hW1 hT1
  replace hh : Hid _ := hh
  replace hW1 : Hid _ := hW1
  replace hT1 : Hid _ := hT1
  go_wp2_with fail
  go_at_call 25
  refine Calls.mono hh.out ?_
  rintro e w2 ⟨rfl, hb2⟩
  go_wp2_with fail
  go_returns
  exact ⟨rfl, (hbb.out.trans hK1.bel).trans (hb2.mono (Nat.le_trans hbb.out.size hK1.size))⟩
end Go.Proofs.YtkcnpbckmdgfnaaGreatDoor
