/-
  strconv.FormatInt at this program's own numbers, out of the library.
  A value's text: value.Show of numbers and texts, literal, and an expression's own word.
  Expressions that came in, in memory.
-/
import Derived.Test.YtkcnpbckmdgfnaaGreatDoorSha
import Derived.Lib.AppendIntMem
import Derived.Test.YtkcnpbckmdgfnaaGreatDoorSht
import Derived.Lib.ItoaLen
namespace Go.Proofs
open Go.Shelf
def Tryz.laysM173_ren : Go.Shelf.Ren := ⟨fun | 173 => 107 | 246 => 83 | 283 => 111 | 284 => 112 | 285 => 113 | 286 => 114 | 129 => 134 | 317 => 133 | 318 => 135 | 319 => 136 | 320 => 137 | 337 => 157 | 338 => 158 | n => n, fun | 2 => 2 | 3 => 3 | 9 => 9 | 4 => 4 | 171 => 163 | 0 => 0 | 53 => 164 | 37 => 54 | 5 => 5 | 173 => 167 | 212 => 184 | 51 => 185 | 20 => 20 | 213 => 186 | 46 => 181 | 232 => 209 | 233 => 210 | n => n, fun | 17 => 4 | 18 => 6 | 19 => 7 | n => n⟩
theorem Tryz.laysM173 : Go.Proofs.LaysM.n173 Tryz.prog Tryz.laysM173_ren := {
  mixed := by kernel_rfl
  f129 := Tryz.func134.trans (congrArg some (by kernel_rfl))
  f173 := Tryz.func107.trans (congrArg some (by kernel_rfl))
  f246 := Tryz.func83.trans (congrArg some (by kernel_rfl))
  f283 := Tryz.func111.trans (congrArg some (by kernel_rfl))
  f284 := Tryz.func112.trans (congrArg some (by kernel_rfl))
  f285 := Tryz.func113.trans (congrArg some (by kernel_rfl))
  f286 := Tryz.func114.trans (congrArg some (by kernel_rfl))
  f317 := Tryz.func133.trans (congrArg some (by kernel_rfl))
  f318 := Tryz.func135.trans (congrArg some (by kernel_rfl))
  f319 := Tryz.func136.trans (congrArg some (by kernel_rfl))
  f320 := Tryz.func137.trans (congrArg some (by kernel_rfl))
  f337 := Tryz.func157.trans (congrArg some (by kernel_rfl))
  f338 := Tryz.func158.trans (congrArg some (by kernel_rfl))
  t0 := Tryz.underlying0
  a0 := Tryz.isAgg0
  z0 := Tryz.sizeOf0
  v0 := Tryz.zeroValue0
  t2 := Tryz.underlying2
  a2 := Tryz.isAgg2
  z2 := Tryz.sizeOf2
  v2 := Tryz.zeroValue2
  t3 := Tryz.underlying3
  a3 := Tryz.isAgg3
  z3 := Tryz.sizeOf3
  v3 := Tryz.zeroValue3
  t4 := Tryz.underlying4
  a4 := Tryz.isAgg4
  z4 := Tryz.sizeOf4
  v4 := Tryz.zeroValue4
  t5 := Tryz.underlying5
  a5 := Tryz.isAgg5
  z5 := Tryz.sizeOf5
  v5 := Tryz.zeroValue5
  t9 := Tryz.underlying9
  a9 := Tryz.isAgg9
  z9 := Tryz.sizeOf9
  v9 := Tryz.zeroValue9
  t20 := Tryz.underlying20
  a20 := Tryz.isAgg20
  z20 := Tryz.sizeOf20
  v20 := Tryz.zeroValue20
  t37 := Tryz.underlying54
  a37 := Tryz.isAgg54
  z37 := Tryz.sizeOf54
  v37 := Tryz.zeroValue54
  t46 := Tryz.underlying181
  a46 := Tryz.isAgg181
  z46 := Tryz.sizeOf181
  v46 := Tryz.zeroValue181
  t51 := Tryz.underlying185
  a51 := Tryz.isAgg185
  z51 := Tryz.sizeOf185
  v51 := Tryz.zeroValue185
  t53 := Tryz.underlying164
  a53 := Tryz.isAgg164
  z53 := Tryz.sizeOf164
  v53 := Tryz.zeroValue164
  t171 := Tryz.underlying163
  a171 := Tryz.isAgg163
  z171 := Tryz.sizeOf163
  v171 := Tryz.zeroValue163
  t173 := Tryz.underlying167
  a173 := Tryz.isAgg167
  z173 := Tryz.sizeOf167
  v173 := Tryz.zeroValue167
  t212 := Tryz.underlying184
  a212 := Tryz.isAgg184
  z212 := Tryz.sizeOf184
  v212 := Tryz.zeroValue184
  t213 := Tryz.underlying186
  a213 := Tryz.isAgg186
  z213 := Tryz.sizeOf186
  t232 := Tryz.underlying209
  a232 := Tryz.isAgg209
  z232 := Tryz.sizeOf209
  v232 := Tryz.zeroValue209
  t233 := Tryz.underlying210
  a233 := Tryz.isAgg210
  z233 := Tryz.sizeOf210
  v233 := Tryz.zeroValue210
  g17 := by kernel_rfl
  g18 := by kernel_rfl
  g19 := by kernel_rfl
  i0 := by kernel_rfl
  i2 := by kernel_rfl
  i3 := by kernel_rfl
  i4 := by kernel_rfl
  i5 := by kernel_rfl
  i9 := by kernel_rfl
  i20 := by kernel_rfl
  i37 := by kernel_rfl
  i46 := by kernel_rfl
  i51 := by kernel_rfl
  i53 := by kernel_rfl
  i171 := by kernel_rfl
  i173 := by kernel_rfl
  i212 := by kernel_rfl
  i232 := by kernel_rfl
  i233 := by kernel_rfl
  m17 := by kernel_rfl
  m18 := by kernel_rfl
  m19 := by kernel_rfl }
open Go.RowKit Go.Sort Go.Lib in
/-- strconv.FormatInt: "FormatInt returns the string representation of i in the given base": AT BASE 10: i's decimal numeral, for every int64. (LAID: no walk: one application.) -/
theorem Tryz.strconv_FormatInt_10 (n : Int) (h0 : -9223372036854775808 ≤ n) (h1 : n ≤ 9223372036854775807) (w : World) (htab : Lib.TabIs Tryz.prog w "internal/strconv.uint64pow10" .u64 Lib.pow10Tab) :
    Calls Tryz.prog 107 #[.int .i64 n, .int .i64 10] w fun e w' => e = .returned (.string ⟨(Lib.itoa n).toArray⟩) ∧ ∃ k os, w' = grow (w.drewN k) os := Any.strconv_FormatInt_10 Tryz.laysM173 n h0 h1 w htab
end Go.Proofs
namespace Go.Proofs.YtkcnpbckmdgfnaaGreatDoor
open Go.ChangeShapes Go.WideShapes Go.ChangeAt Go.RowKit
set_option linter.unusedSimpArgs false
set_option linter.unusedVariables false

theorem Format_any (n : Int) (h0 : 0 ≤ n) (h1 : n ≤ 9223372036854775807) (w : World) (hT : Tabs w) :
    Calls Tryz.prog 107 #[.int .i64 n, .int .i64 10] w fun e w' => e = .returned (.string (txt (Lib.decDigits n.toNat))) ∧ Below w.heap.size w w' := by
  refine (Tryz.strconv_FormatInt_10 n (by omega) h1 w hT.p10).mono ?_
  rintro e w' ⟨rfl, k, os, rfl⟩
  refine ⟨?_, Lib.below_grow _ w (Nat.le_refl _) k os⟩
  unfold Lib.itoa
  rw [if_neg (by omega)]
  rfl
set_option maxRecDepth 100000 in
set_option maxHeartbeats 1000000 in
theorem show_int (b : Bool) (n : Int) (t : List UInt8) (pa : Option Addr) (ph : List Int) (c : Nat) (w : World) (hT : Tabs w) (hp : V2.PathAt w pa ph) (ht : t.length ≤ maxLen) (h0 : 0 ≤ n) (h1 : n ≤ 9223372036854775807) (hr : rgV 2 b n t ph = true) :
    Calls Tryz.prog 125 #[.agg #[.int .i64 2, .bool b, .int .i64 n, .string (txt t), .slice pa ph.length c]] w fun e w' => e = .returned (.string (txt (Lib.decDigits n.toNat))) ∧ Below w.heap.size w w' := by
  have hb0 := below_new w (.cells #[.int .i64 2, .bool b, .int .i64 n, .string (txt t), .slice pa ph.length c] 37)
  have hR := fun (_ : Unit) => right_val 2 b n t pa ph c _ (hT.below hb0) (hp.below hb0) ht
  rw [hr] at hR
  have q0 : (w.alloc (.cells #[.int .i64 2, .bool b, .int .i64 n, .string (txt t), .slice pa ph.length c] 37)).cell? ⟨w.heap.size, 0, none⟩ = some (.int .i64 2) := alloc_cell w rfl
  have qq : (w.alloc (.cells #[.int .i64 2, .bool b, .int .i64 n, .string (txt t), .slice pa ph.length c] 37)).cell? ⟨w.heap.size, 2, none⟩ = some (.int .i64 n) := alloc_cell w rfl
  have hF := fun (w1 : World) (h : Tabs w1) => Format_any n h0 h1 w1 h
  generalize txt (Lib.decDigits n.toNat) = X at hF ⊢
  replace hR : Hid _ := hR
  replace hF : Hid _ := hF
  replace hb0 : Hid _ := hb0
  replace q0 : Hid _ := q0
  replace qq : Hid _ := qq
  clear hr
  go_enter Tryz.func125, Tryz.ntmps125
  go_wp2_with (first
    | (have hh := hR.out (); go_at_call 124; (with_reducible refine Calls.mono hh ?_); clear hh; rintro e w1 ⟨rfl, hb1⟩; have k0 := cbelow hb1 q0.out; have kq := cbelow hb1 qq.out)
    | (have hh := hF.out _ (hT.below (below_on hb0.out hb1)); go_at_call 107; (with_reducible refine Calls.mono hh ?_); clear hh; rintro e w2 ⟨rfl, hb2⟩))
  go_returns
  exact ⟨rfl, below_on (below_on hb0.out hb1) hb2⟩
set_option maxRecDepth 100000 in
set_option maxHeartbeats 1000000 in
theorem show_text (b : Bool) (n : Int) (t : List UInt8) (pa : Option Addr) (ph : List Int) (c : Nat) (w : World) (hT : Tabs w) (hp : V2.PathAt w pa ph) (ht : t.length ≤ maxLen) (hs : t.length ≤ 1048576) (hv : Lib.validD t = true) (hr : rgV 3 b n t ph = true) :
    Calls Tryz.prog 125 #[.agg #[.int .i64 3, .bool b, .int .i64 n, .string (txt t), .slice pa ph.length c]] w fun e w' => e = .returned (.string (txt (quoL t))) ∧ Below w.heap.size w w' := by
  have hb0 := below_new w (.cells #[.int .i64 3, .bool b, .int .i64 n, .string (txt t), .slice pa ph.length c] 37)
  have hR := fun (_ : Unit) => right_val 3 b n t pa ph c _ (hT.below hb0) (hp.below hb0) ht
  rw [hr] at hR
  have q0 : (w.alloc (.cells #[.int .i64 3, .bool b, .int .i64 n, .string (txt t), .slice pa ph.length c] 37)).cell? ⟨w.heap.size, 0, none⟩ = some (.int .i64 3) := alloc_cell w rfl
  have qq : (w.alloc (.cells #[.int .i64 3, .bool b, .int .i64 n, .string (txt t), .slice pa ph.length c] 37)).cell? ⟨w.heap.size, 3, none⟩ = some (.string (txt t)) := alloc_cell w rfl
  have hF := fun (w1 : World) (_ : Tabs w1) => showText_any (txt t) (by rw [txt_size]; exact hs) (by rw [txt_list]; exact hv) w1
  rw [txt_list] at hF
  generalize txt (quoL t) = X at hF ⊢
  replace hR : Hid _ := hR
  replace hF : Hid _ := hF
  replace hb0 : Hid _ := hb0
  replace q0 : Hid _ := q0
  replace qq : Hid _ := qq
  clear hr
  go_enter Tryz.func125, Tryz.ntmps125
  go_wp2_with (first
    | (have hh := hR.out (); go_at_call 124; (with_reducible refine Calls.mono hh ?_); clear hh; rintro e w1 ⟨rfl, hb1⟩; have k0 := cbelow hb1 q0.out; have kq := cbelow hb1 qq.out)
    | (have hh := hF.out _ (hT.below (below_on hb0.out hb1)); go_at_call 150; (with_reducible refine Calls.mono hh ?_); clear hh; rintro e w2 ⟨rfl, hb2⟩))
  go_returns
  exact ⟨rfl, below_on (below_on hb0.out hb1) hb2⟩
theorem rgV_text {b : Bool} {n : Int} {t : List UInt8} {ph : List Int} (h : rgV 3 b n t ph = true) : t.length ≤ 4096 ∧ Lib.validD t = true := by
  unfold rgV V2.rgtB at h
  rw [Bool.and_eq_true] at h
  have h2 := h.2
  unfold V2.fitB at h2
  rw [txt_size] at h2
  revert h2
  intro h2
  simp at h2
  exact ⟨by omega, by simp_all⟩
set_option maxRecDepth 100000 in
set_option maxHeartbeats 1000000 in
theorem lit95_any (k : Int) (b : Bool) (n : Int) (t : List UInt8) (pa : Option Addr) (ph : List Int) (c : Nat) (w : World) (hT : Tabs w) (hp : V2.PathAt w pa ph) (ht : t.length ≤ maxLen) (hl : litB k b n t ph = true) (hk0 : 0 ≤ k) (hn : n ≤ 9223372036854775807) :
    Calls Tryz.prog 95 #[.agg #[.int .i64 k, .bool b, .int .i64 n, .string (txt t), .slice pa ph.length c]] w fun e w' => e = .returned (.string (txt (litT k b n t))) ∧ Below w.heap.size w w' := by
  unfold litB at hl
  rw [Bool.and_eq_true, Bool.and_eq_true, decide_eq_true_eq, decide_eq_true_eq] at hl
  obtain ⟨⟨hr, hk3⟩, hn0⟩ := hl
  unfold litT
  by_cases k0 : k = 0
  · subst k0
    rw [if_pos rfl]
    have hb0 := below_new w (.cells #[.int .i64 0, .bool b, .int .i64 n, .string (txt t), .slice pa ph.length c] 37)
    go_enter Tryz.func95, Tryz.ntmps95
    go_wp2_with fail
    go_returns
    exact ⟨rfl, hb0⟩
  rw [if_neg k0]
  by_cases k1 : k = 1
  · subst k1
    rw [if_pos rfl]
    cases b
    · have hb0 := below_new w (.cells #[.int .i64 1, .bool false, .int .i64 n, .string (txt t), .slice pa ph.length c] 37)
      go_enter Tryz.func95, Tryz.ntmps95
      go_wp2_with fail
      go_returns
      exact ⟨rfl, hb0⟩
    · have hb0 := below_new w (.cells #[.int .i64 1, .bool true, .int .i64 n, .string (txt t), .slice pa ph.length c] 37)
      go_enter Tryz.func95, Tryz.ntmps95
      go_wp2_with fail
      go_returns
      exact ⟨rfl, hb0⟩
  rw [if_neg k1]
  by_cases k2 : k = 2
  · subst k2
    rw [if_pos rfl]
    have hb0 := below_new w (.cells #[.int .i64 2, .bool b, .int .i64 n, .string (txt t), .slice pa ph.length c] 37)
    have hF := fun (_ : Unit) => show_int b n t pa ph c _ (hT.below hb0) (hp.below hb0) ht hn0 hn hr
    generalize txt (Lib.decDigits n.toNat) = X at hF ⊢
    replace hF : Hid _ := hF
    replace hb0 : Hid _ := hb0
    go_enter Tryz.func95, Tryz.ntmps95
    go_wp2_with (have hh := hF.out (); go_at_call 125; (with_reducible refine Calls.mono hh ?_); clear hh; rintro e w1 ⟨rfl, hb1⟩)
    go_returns
    exact ⟨rfl, below_on hb0.out hb1⟩
  rw [if_neg k2]
  obtain rfl : k = 3 := by omega
  obtain ⟨h4, hv⟩ := rgV_text hr
  have hb0 := below_new w (.cells #[.int .i64 3, .bool b, .int .i64 n, .string (txt t), .slice pa ph.length c] 37)
  have hF := fun (_ : Unit) => show_text b n t pa ph c _ (hT.below hb0) (hp.below hb0) ht (by omega) hv hr
  generalize txt (quoL t) = X at hF ⊢
  replace hF : Hid _ := hF
  replace hb0 : Hid _ := hb0
  clear k0 k1 k2
  go_enter Tryz.func95, Tryz.ntmps95
  go_wp2_with (have hh := hF.out (); go_at_call 125; (with_reducible refine Calls.mono hh ?_); clear hh; rintro e w1 ⟨rfl, hb1⟩)
  go_returns
  exact ⟨rfl, below_on hb0.out hb1⟩
theorem txt_app (a b : List UInt8) : txt a ++ txt b = txt (a ++ b) := by
  apply ByteArray.ext
  simp [txt]
set_option maxRecDepth 100000 in
set_option maxHeartbeats 1000000 in
theorem own_any (op : Int) (nm pr : List UInt8) (k : Int) (b : Bool) (n : Int) (t : List UInt8) (pa : Option Addr) (ph : List Int) (c : Nat) (kp : Option Addr) (kn kc : Nat) (w : World) (hT : Tabs w) (hp : V2.PathAt w pa ph) (ht : t.length ≤ maxLen)
    (hk0 : 0 ≤ k) (hn : n ≤ 9223372036854775807) (hf : fldB op nm pr k b n t ph = true) (hnl : nm.length ≤ 1000000) (hpl : pr.length ≤ 1000000) :
    Calls Tryz.prog 68 #[.agg #[.int .i64 op, .slice kp kn kc, .string (txt nm), .string (txt pr), .int .i64 k, .bool b, .int .i64 n, .string (txt t), .slice pa ph.length c]] w fun e w' => e = .returned (.string (txt (ownT op nm pr k b n t))) ∧ Below w.heap.size w w' := by
  unfold ownT
  unfold fldB at hf
  by_cases o1 : op = 1
  · subst o1
    rw [if_pos rfl] at hf ⊢
    rw [Bool.and_eq_true] at hf
    have hb0 := below_new w (.cells #[.int .i64 1, .slice kp kn kc, .string (txt nm), .string (txt pr), .int .i64 k, .bool b, .int .i64 n, .string (txt t), .slice pa ph.length c] 39)
    have hF := fun (_ : Unit) => lit95_any k b n t pa ph c _ (hT.below hb0) (hp.below hb0) ht hf.2 hk0 hn
    generalize txt (litT k b n t) = X at hF ⊢
    replace hF : Hid _ := hF
    replace hb0 : Hid _ := hb0
    clear hf
    go_enter Tryz.func68, Tryz.ntmps68
    go_wp2_with (have hh := hF.out (); go_at_call 95; (with_reducible refine Calls.mono hh ?_); clear hh; rintro e w1 ⟨rfl, hb1⟩)
    go_returns
    exact ⟨rfl, below_on hb0.out hb1⟩
  rw [if_neg o1]
  clear hf
  by_cases o2 : op = 2
  · subst o2
    rw [if_pos rfl]
    have hb0 := below_new w (.cells #[.int .i64 2, .slice kp kn kc, .string (txt nm), .string (txt pr), .int .i64 k, .bool b, .int .i64 n, .string (txt t), .slice pa ph.length c] 39)
    go_enter Tryz.func68, Tryz.ntmps68
    go_wp2_with fail
    go_returns
    exact ⟨rfl, hb0⟩
  rw [if_neg o2]
  by_cases o3 : op = 3
  · subst o3
    rw [if_pos rfl]
    have hb0 := below_new w (.cells #[.int .i64 3, .slice kp kn kc, .string (txt nm), .string (txt pr), .int .i64 k, .bool b, .int .i64 n, .string (txt t), .slice pa ph.length c] 39)
    have z1 := txt_size nm
    have z2 := txt_size pr
    have u1 : ∀ W, (Op.stringOp .add (txt nm) (⟨#[46]⟩ : ByteArray)).run Tryz.prog W = .ok (.string (txt (nm ++ [46]))) W := fun W => by
      rw [← txt_app]; apply run_string_add_sum; rw [z1]; show _ + 1 ≤ _; omega
    have u2 : ∀ W, (Op.stringOp .add (txt (nm ++ [46])) (txt pr)).run Tryz.prog W = .ok (.string (txt (nm ++ ([46] ++ pr)))) W := fun W => by
      rw [← List.append_assoc, ← txt_app]; apply run_string_add_sum; simp only [ByteArray.size_append, txt_size, List.length_append, List.length_cons, List.length_nil]; omega
    clear z1 z2
    go_enter Tryz.func68, Tryz.ntmps68
    go_wp2_with fail
    go_returns
    exact ⟨rfl, hb0⟩
  rw [if_neg o3]
  have hb0 := below_new w (.cells #[.int .i64 op, .slice kp kn kc, .string (txt nm), .string (txt pr), .int .i64 k, .bool b, .int .i64 n, .string (txt t), .slice pa ph.length c] 39)
  have o1b : (op == 1) = false := by simpa using o1
  have o2b : (op == 2) = false := by simpa using o2
  have o3b : (op == 3) = false := by simpa using o3
  go_enter Tryz.func68, Tryz.ntmps68
  go_wp2_with fail
  go_returns
  exact ⟨rfl, hb0⟩
end Go.Proofs.YtkcnpbckmdgfnaaGreatDoor
namespace Go.Proofs.YtkcnpbckmdgfnaaGreatDoor
open Go.ChangeShapes Go.WideShapes Go.ChangeAt Go.RowKit
set_option linter.unusedSimpArgs false
set_option linter.unusedVariables false

/-- Nine cells of a row. -/
def Nine (w : World) (g o : Nat) (op : Int) (nm pr : List UInt8) (k : Int) (b : Bool) (n : Int) (t : List UInt8) (kv pv : Value) : Prop :=
  w.cell? ⟨g, o, none⟩ = some (.int .i64 op) ∧ w.cell? ⟨g, o + 1, none⟩ = some kv ∧ w.cell? ⟨g, o + 2, none⟩ = some (.string (txt nm)) ∧ w.cell? ⟨g, o + 3, none⟩ = some (.string (txt pr)) ∧ w.cell? ⟨g, o + 4, none⟩ = some (.int .i64 k) ∧
  w.cell? ⟨g, o + 5, none⟩ = some (.bool b) ∧ w.cell? ⟨g, o + 6, none⟩ = some (.int .i64 n) ∧ w.cell? ⟨g, o + 7, none⟩ = some (.string (txt t)) ∧ w.cell? ⟨g, o + 8, none⟩ = some pv
def PhAt (w : World) (ph : List Int) (pv : Value) : Prop := ∃ p c, pv = .slice p ph.length c ∧ V2.PathAt w p ph
mutual
/-- An expression's Kids in memory. -/
def TAt (w : World) : Tr → Value → Prop
  | .mk _ _ _ _ _ _ _ _ ks, v => ∃ p c, v = .slice p ks.length c ∧ (ks = [] ∨ ∃ g o, p = some ⟨g, o, none⟩ ∧ LAt w g o ks)
/-- Expressions in a row. -/
def LAt (w : World) (g : Nat) (o : Nat) : List Tr → Prop
  | [] => True
  | x :: r => (∃ kv pv, (match x with | .mk op nm pr k b n t ph ks => Nine w g o op nm pr k b n t kv pv ∧ PhAt w ph pv) ∧ TAt w x kv) ∧ LAt w g (o + 9) r
end
mutual
/-- Its numbers and texts are such that there are. -/
def fineT : Tr → Prop
  | .mk op nm pr k b n t ph ks => nm.length ≤ maxLen ∧ pr.length ≤ maxLen ∧ n ≤ 9223372036854775807 ∧ t.length ≤ maxLen ∧ ks.length ≤ maxLen ∧ fineL ks
def fineL : List Tr → Prop
  | [] => True
  | x :: r => fineT x ∧ fineL r
end
theorem Nine.below {w w' : World} {g o : Nat} {op : Int} {nm pr : List UInt8} {k : Int} {b : Bool} {n : Int} {t : List UInt8} {kv pv : Value} (h : Nine w g o op nm pr k b n t kv pv) (hb : Below w.heap.size w w') : Nine w' g o op nm pr k b n t kv pv := by
  obtain ⟨c0, c1, c2, c3, c4, c5, c6, c7, c8⟩ := h
  exact ⟨cbelow hb c0, cbelow hb c1, cbelow hb c2, cbelow hb c3, cbelow hb c4, cbelow hb c5, cbelow hb c6, cbelow hb c7, cbelow hb c8⟩
/-- The row of one of them. -/
theorem LAt.get {w : World} {g : Nat} : ∀ (ks : List Tr) (o i : Nat) (op : Int) (nm pr : List UInt8) (k : Int) (b : Bool) (n : Int) (t : List UInt8) (ph : List Int) (kk : List Tr), LAt w g o ks → ks[i]? = some (.mk op nm pr k b n t ph kk) →
    ∃ kv pv, Nine w g (o + i * 9) op nm pr k b n t kv pv ∧ PhAt w ph pv ∧ TAt w (.mk op nm pr k b n t ph kk) kv
  | [], _, _, _, _, _, _, _, _, _, _, _, _, h => by simp at h
  | x :: r, o, 0, op, nm, pr, k, b, n, t, ph, kk, h, hx => by
    obtain rfl : x = .mk op nm pr k b n t ph kk := by simpa using hx
    rw [LAt] at h
    obtain ⟨⟨kv, pv, ⟨h1, h2⟩, h3⟩, _⟩ := h
    exact ⟨kv, pv, by simpa using h1, h2, h3⟩
  | x :: r, o, i + 1, op, nm, pr, k, b, n, t, ph, kk, h, hx => by
    rw [LAt] at h
    have hx' : r[i]? = some (.mk op nm pr k b n t ph kk) := by simpa using hx
    obtain ⟨kv, pv, h1, h2, h3⟩ := LAt.get r (o + 9) i op nm pr k b n t ph kk h.2 hx'
    exact ⟨kv, pv, by rw [show o + (i + 1) * 9 = o + 9 + i * 9 by omega]; exact h1, h2, h3⟩
theorem fineL.get : ∀ (ks : List Tr) (i : Nat) (x : Tr), fineL ks → ks[i]? = some x → fineT x
  | [], _, _, _, h => by simp at h
  | y :: r, 0, x, h, hx => by
    obtain rfl : y = x := by simpa using hx
    rw [fineL] at h
    exact h.1
  | y :: r, i + 1, x, h, hx => by
    rw [fineL] at h
    exact fineL.get r i x h.2 (by simpa using hx)
theorem rgV_kind {k : Int} {b : Bool} {n : Int} {t : List UInt8} {ph : List Int} (h : rgV k b n t ph = true) : 0 ≤ k := by
  unfold rgV V2.rgtB at h
  rw [Bool.and_eq_true] at h
  have h2 := h.2
  unfold V2.fitB at h2
  by_cases hk : 0 ≤ k
  · exact hk
  · have e0 : ¬ k = 0 := by omega
    have e1 : ¬ k = 1 := by omega
    have e2 : ¬ k = 2 := by omega
    have e3 : ¬ k = 3 := by omega
    have e4 : ¬ k = 4 := by omega
    have e5 : ¬ k = 5 := by omega
    have e6 : ¬ k = 6 := by omega
    simp [e0, e1, e2, e3, e4, e5, e6] at h2
theorem fld_kind {op : Int} {nm pr : List UInt8} {k : Int} {b : Bool} {n : Int} {t : List UInt8} {ph : List Int} (h : fldB op nm pr k b n t ph = true) : 0 ≤ k := by
  unfold fldB litB zerB at h
  split at h
  · simp only [Bool.and_eq_true] at h; exact rgV_kind h.2.1.1
  · split at h
    · simp only [Bool.and_eq_true] at h; exact rgV_kind h.2.1
    · split at h
      · simp only [Bool.and_eq_true] at h; exact rgV_kind h.2.1
      · simp only [Bool.and_eq_true] at h; exact rgV_kind h.2.1
theorem nmB_len {s : List UInt8} (h : nmB s = true) : s.length ≤ 32 := by
  unfold nmB V4.nameB at h
  rw [txt_size] at h
  simp at h
  omega
theorem fld_len {op : Int} {nm pr : List UInt8} {k : Int} {b : Bool} {n : Int} {t : List UInt8} {ph : List Int} (h : fldB op nm pr k b n t ph = true) : nm.length ≤ 32 ∧ pr.length ≤ 32 := by
  unfold fldB at h
  split at h
  · simp only [Bool.and_eq_true, decide_eq_true_eq] at h; obtain ⟨⟨rfl, rfl⟩, _⟩ := h; simp
  · split at h
    · simp only [Bool.and_eq_true, decide_eq_true_eq] at h; obtain ⟨⟨h1, rfl⟩, _⟩ := h; exact ⟨nmB_len h1, by simp⟩
    · split at h
      · simp only [Bool.and_eq_true] at h; exact ⟨nmB_len h.1.1, nmB_len h.1.2⟩
      · simp only [Bool.and_eq_true, decide_eq_true_eq] at h; obtain ⟨⟨rfl, rfl⟩, _⟩ := h; simp
theorem escS_le : ∀ l : List UInt8, (escS l).length ≤ 2 * l.length
  | [] => Nat.le_refl _
  | b :: r => by
    have := escS_le r
    have hb : (escB b).length ≤ 2 := by unfold escB; split; simp; split <;> simp
    rw [escS_cons, List.length_append, List.length_cons]
    omega
theorem own_len {op : Int} {nm pr : List UInt8} {k : Int} {b : Bool} {n : Int} {t : List UInt8} {ph : List Int} (h : fldB op nm pr k b n t ph = true) (hn : n ≤ 9223372036854775807) : (ownT op nm pr k b n t).length ≤ 100000 := by
  have hl := fld_len h
  have hk := fld_kind h
  unfold ownT
  split
  · rename_i h1
    subst h1
    unfold fldB at h
    rw [if_pos rfl] at h
    simp only [Bool.and_eq_true] at h
    have h := h.2
    unfold litB at h
    simp only [Bool.and_eq_true, decide_eq_true_eq] at h
    unfold litT
    split
    · simp
    · split
      · split <;> simp
      · split
        · have h0 := h.2
          have := Lib.itoa_length_le n (by omega) hn
          unfold Lib.itoa at this
          rw [if_neg (by omega)] at this
          have e : n.natAbs = n.toNat := by omega
          first | omega | (rw [e] at this; omega)
        · obtain rfl : k = 3 := by omega
          have h4 := (rgV_text h.1.1).1
          have := escS_le t
          unfold quoL
          simp only [List.length_cons, List.length_append, List.length_nil]
          omega
  · split
    · omega
    · split
      · simp only [List.length_append, List.length_cons, List.length_nil]; omega
      · simp
end Go.Proofs.YtkcnpbckmdgfnaaGreatDoor
