/-
  The document's writer, on its way: from a place on it has written X, and all was right so far; a kid.
-/
import Derived.Test.YtkcnpbckmdgfnaaGreatDoorRkz
import Derived.Test.YtkcnpbckmdgfnaaGreatDoorDwn
namespace Go.Proofs.YtkcnpbckmdgfnaaGreatDoor
open Go.ChangeShapes Go.WideShapes Go.ChangeAt Go.RowKit
set_option linter.unusedSimpArgs false
set_option linter.unusedVariables false

theorem dec50 (dp : Int) : decide (50 < dp + 1) = !decide (dp + 1 ≤ 50) := by
  by_cases h : dp + 1 ≤ 50
  · rw [decide_eq_true h, decide_eq_false (by omega)]
    rfl
  · rw [decide_eq_false h, decide_eq_true (by omega)]
    rfl
/-- Since w the writer has written X behind T, if all was right (ok); it is dp deep. -/
def St (B b : Nat) (T : List UInt8) (ok : Bool) (X : List UInt8) (dp : Int) (w w' : World) : Prop :=
  B ≤ w.heap.size ∧ Kps B b w w' ∧ ∃ T', WAt B b T' dp (!ok) w' ∧ (ok = true → T' = T ++ X)
theorem St.kps {B b : Nat} {T X : List UInt8} {ok : Bool} {dp : Int} {w w' : World} (h : St B b T ok X dp w w') : Kps B b w w' := h.2.1
theorem St.siz {B b : Nat} {T X : List UInt8} {ok : Bool} {dp : Int} {w w' : World} (h : St B b T ok X dp w w') : B ≤ w'.heap.size := Nat.le_trans h.1 h.2.1.size
theorem St.ltb {B b : Nat} {T X : List UInt8} {ok : Bool} {dp : Int} {w w' : World} (h : St B b T ok X dp w w') : b < w'.heap.size := by
  obtain ⟨_, _, T', h1, _⟩ := h
  exact h1.lt
theorem St.start {B b : Nat} {T : List UInt8} {ok : Bool} {dp : Int} {w : World} (hB : B ≤ w.heap.size) (h : WAt B b T dp (!ok) w) : St B b T ok [] dp w w :=
  ⟨hB, Kps.refl _ _ _, T, h, fun _ => (List.append_nil T).symm⟩
theorem St.below {B b : Nat} {T X : List UInt8} {ok : Bool} {dp : Int} {w w1 w2 : World} (h : St B b T ok X dp w w1) (hb : Below w1.heap.size w1 w2) : St B b T ok X dp w w2 := by
  have hs := h.siz
  obtain ⟨hB, hk, T', h1, h2⟩ := h
  exact ⟨hB, hk.trans (Kps.of hb hs), T', h1.below hb, h2⟩
theorem St.from {B b : Nat} {T X : List UInt8} {ok : Bool} {dp : Int} {w w1 w2 : World} (hB : B ≤ w.heap.size) (hk : Kps B b w w1) (h : St B b T ok X dp w1 w2) : St B b T ok X dp w w2 := by
  obtain ⟨_, hk2, T', h1, h2⟩ := h
  exact ⟨hB, hk.trans hk2, T', h1, h2⟩
theorem St.say {B b : Nat} {T X : List UInt8} {ok : Bool} {dp : Int} {w w1 : World} (s : List UInt8) (h : St B b T ok X dp w w1) (hs : s.length ≤ 4194304) :
    Calls Tryz.prog 20 #[.pointer (some ⟨b, 0, none⟩), .string (txt s)] w1 fun e w' => e = .returned (.tuple #[]) ∧ St B b T ok (X ++ s) dp w w' := by
  have hz := h.siz
  obtain ⟨hB, hk, T', h1, h2⟩ := h
  refine (rsay_any s w1 h1 hs hz).mono ?_
  rintro e w' ⟨rfl, h3, h4⟩
  exact ⟨rfl, hB, hk.trans h4, _, h3, fun e => by rw [h2 e, List.append_assoc]⟩
theorem St.down {B b : Nat} {T X : List UInt8} {ok : Bool} {dp : Int} {w w1 : World} (h : St B b T ok X dp w w1) (h0 : 0 ≤ dp) (h1 : dp ≤ 1000) :
    Calls Tryz.prog 48 #[.pointer (some ⟨b, 0, none⟩)] w1 fun e w' => e = .returned (.tuple #[]) ∧ St B b T (ok && decide (dp + 1 ≤ 50)) X (dp + 1) w w' := by
  obtain ⟨hB, hk, T', h2, h3⟩ := h
  refine (rdown_any w1 h2 h0 (by omega)).mono ?_
  rintro e w' ⟨rfl, h4, h5⟩
  refine ⟨rfl, hB, hk.trans h5, T', ?_, fun e => h3 (by rw [Bool.and_eq_true] at e; exact e.1)⟩
  have e : (!ok || decide (50 < dp + 1)) = !(ok && decide (dp + 1 ≤ 50)) := by
    rw [dec50]
    cases ok <;> simp
  rw [← e]
  exact h4
theorem St.deep {B b : Nat} {T X : List UInt8} {ok : Bool} {dp : Int} {w w1 : World} (h : St B b T ok X dp w w1) (dp' : Int) : St B b T ok X dp' w (w1.setCell ⟨b, 1, none⟩ (.int .i64 dp')) := by
  obtain ⟨hB, hk, T', h2, h3⟩ := h
  exact ⟨hB, hk.trans (h2.deep dp').2, T', (h2.deep dp').1, h3⟩
theorem St.deep_cell {B b : Nat} {T X : List UInt8} {ok : Bool} {dp : Int} {w w1 : World} (h : St B b T ok X dp w w1) : w1.cell? ⟨b, 1, none⟩ = some (.int .i64 dp) ∧ w1.frozen? ⟨b, 1, none⟩ = false := by
  obtain ⟨hB, hk, T', h2, h3⟩ := h
  exact h2.deep_cell
theorem St.bad_cell {B b : Nat} {T X : List UInt8} {ok : Bool} {dp : Int} {w w1 : World} (h : St B b T ok X dp w w1) : w1.cell? ⟨b, 2, none⟩ = some (.bool (!ok)) ∧ w1.frozen? ⟨b, 2, none⟩ = false := by
  obtain ⟨hB, hk, T', h2, h3⟩ := h
  exact h2.bad_cell
theorem St.to {B b : Nat} {T X X' : List UInt8} {ok ok' : Bool} {dp : Int} {w w1 : World} (h : St B b T ok X dp w w1) (h1 : ok = ok') (h2 : ok' = true → X = X') : St B b T ok' X' dp w w1 := by
  subst h1
  obtain ⟨hB, hk, T', h3, h4⟩ := h
  exact ⟨hB, hk, T', h3, fun e => by rw [h4 e, h2 e]⟩
/-- Lengths of names. -/
inductive Short : Tr → Prop
  | mk (op : Int) (nm pr : List UInt8) (k : Int) (b : Bool) (n : Int) (t : List UInt8) (ph : List Int) (ks : List Tr) : nm.length ≤ 1048576 → pr.length ≤ 1048576 → (∀ y ∈ ks, Short y) → Short (.mk op nm pr k b n t ph ks)
/-- What is asked of expr of an expression. -/
def DOk (w0 : World) (b : Nat) (x : Tr) : Prop := ∀ (dp : Int) (ok : Bool) (kv pv : Value) (T X : List UInt8) (w w1 : World), 0 ≤ dp → dp ≤ 60 → (ok = true → dp ≤ 50) → fineT x → Short x → TAt w0 x kv → PhAt w0 x.ph pv → Below w0.heap.size w0 w → St w0.heap.size b T ok X dp w w1 →
  Calls Tryz.prog 22 #[.pointer (some ⟨b, 0, none⟩), x.val kv pv] w1 fun e w' => e = .returned (.tuple #[]) ∧ St w0.heap.size b T (ok && okT 1 dp x) (X ++ txT 1 x) dp w w'
theorem kid_any {w0 : World} {b : Nat} (op : Int) (nm pr : List UInt8) (k : Int) (bb : Bool) (n : Int) (t : List UInt8) (ph : List Int) (ks : List Tr) (kv pv : Value) (m : Nat) (y : Tr) (hy : ks[m]? = some y) (ih : DOk w0 b y) (P : Int) (hA : ∀ w1, Calls Tryz.prog 80 #[.int .i64 op, .int .i64 (m : Int)] w1 fun e w' => e = .returned (.int .i64 P) ∧ w' = w1) (hP1 : 1 ≤ P) (hP8 : P ≤ 8)
    {dp : Int} {ok : Bool} {T X : List UInt8} {w w1 : World} (h0 : 0 ≤ dp) (h1 : dp ≤ 55) (h2 : ok = true → dp ≤ 50) (hfi : fineT (.mk op nm pr k bb n t ph ks)) (hsh : Short (.mk op nm pr k bb n t ph ks)) (hTA : TAt w0 (.mk op nm pr k bb n t ph ks) kv) (hbel : Below w0.heap.size w0 w) (hS : St w0.heap.size b T ok X dp w w1) :
    Calls Tryz.prog 46 #[.pointer (some ⟨b, 0, none⟩), (Tr.mk op nm pr k bb n t ph ks).val kv pv, .int .i64 (m : Int)] w1 fun e w' => e = .returned (.tuple #[]) ∧ St w0.heap.size b T (ok && okT P dp y) (X ++ txT P y) dp w w' := by
  rw [TAt] at hTA
  obtain ⟨kp, kc, rfl, hrow⟩ := hTA
  have hm : m < ks.length := (List.getElem?_eq_some_iff.1 hy).1
  rcases hrow with e | ⟨g, o, rfl, hL⟩
  · rw [e] at hm
    exact absurd hm (by simp)
  rw [fineT] at hfi
  have hfy := fineL.get ks m y hfi.2.2.2.2.2 hy
  have hsy : Short y := by
    cases hsh with
    | mk _ _ _ _ _ _ _ _ _ _ _ hk => exact hk y (List.mem_of_getElem? hy)
  obtain ⟨cop, cnm, cpr, ck, cb, cn, ct, cph, cks⟩ := y
  obtain ⟨ckv, cpv, hN, hPh, hTy⟩ := LAt.get ks o m cop cnm cpr ck cb cn ct cph cks hL hy
  have hbw : Below w0.heap.size w0 w1 := hbel.trans hS.kps.bel
  have hN1 : Nine w1 g (o + m * 9) cop cnm cpr ck cb cn ct ckv cpv := by
    obtain ⟨c0, c1, c2, c3, c4, c5, c6, c7, c8⟩ := hN
    exact ⟨cbelow hbw c0, cbelow hbw c1, cbelow hbw c2, cbelow hbw c3, cbelow hbw c4, cbelow hbw c5, cbelow hbw c6, cbelow hbw c7, cbelow hbw c8⟩
  have hPh2 := hPh
  have hTy2 := hTy
  obtain ⟨pa, pq, rfl, _⟩ := hPh
  rw [TAt] at hTy
  obtain ⟨ka, kq, rfl, _⟩ := hTy
  by_cases hl : P ≤ lvX cop
  · refine Calls.mono (kid_flat (Q := fun _ w' => St w0.heap.size b T (ok && okT 1 dp (.mk cop cnm cpr ck cb cn ct cph cks)) (X ++ txT 1 (.mk cop cnm cpr ck cb cn ct cph cks)) dp w w') b g o ks.length kc m op (txt nm) (txt pr) (txt t) k bb n pv cop cnm cpr ck cb cn ct ka cks.length kq pa cph.length pq w1 hm hN1 P hA hl fun w2 hb2 => ?_) ?_
    · exact ih dp ok _ _ T X w w2 h0 (by omega) h2 hfy hsy hTy2 hPh2 hbel (hS.below hb2)
    · rintro e w' ⟨rfl, w2, hb2, hq⟩
      refine ⟨rfl, hq.to ?_ ?_⟩
      · cases hio : isOp cop
        · rw [okT_none _ _ _ _ _ _ _ _ _ _ _ hio, okT_none _ _ _ _ _ _ _ _ _ _ _ hio]
        · unfold lvX at hl
          rw [hio] at hl
          rw [(okT_plain P dp cop cnm cpr ck cb cn ct cph cks hio hl).1]
      · intro e
        rw [Bool.and_eq_true] at e
        cases hio : isOp cop
        · rw [okT_none _ _ _ _ _ _ _ _ _ _ _ hio] at e
          exact absurd e.2 (by simp)
        · unfold lvX at hl
          rw [hio] at hl
          rw [(okT_plain P dp cop cnm cpr ck cb cn ct cph cks hio hl).2]
  · have hio : isOp cop = true := by
      cases hio : isOp cop
      · unfold lvX at hl
        rw [hio] at hl
        exact absurd hP8 hl
      · rfl
    have hl2 : (fmOf cop).lvl < P := by
      unfold lvX at hl
      rw [hio] at hl
      simp only [if_true] at hl
      omega
    obtain ⟨e1, e2⟩ := okT_in P dp cop cnm cpr ck cb cn ct cph cks hio hl2
    obtain ⟨hB, hk, T', hW, hT'⟩ := hS
    refine Calls.mono (kid_in (R := fun T2 bad2 => bad2 = !(ok && decide (dp + 1 ≤ 50) && okT 1 (dp + 1) (.mk cop cnm cpr ck cb cn ct cph cks)) ∧ (bad2 = false → T2 = T ++ X ++ [40] ++ txT 1 (.mk cop cnm cpr ck cb cn ct cph cks))) b g o ks.length kc m op (txt nm) (txt pr) (txt t) k bb n pv cop cnm cpr ck cb cn ct ka cks.length kq pa cph.length pq w1 hm hN1 P hA (by omega) hW (Nat.le_trans hB hk.size) h0 (by omega) fun w2 hW2 hK2 => ?_) ?_
    · have e3 : (!ok || decide (50 < dp + 1)) = !(ok && decide (dp + 1 ≤ 50)) := by
        rw [dec50]
        cases ok <;> simp
      rw [e3] at hW2
      have hz2 : w0.heap.size ≤ w2.heap.size := Nat.le_trans (Nat.le_trans hB hk.size) hK2.size
      refine Calls.mono (ih (dp + 1) _ _ _ (T' ++ [40]) [] w2 w2 (by omega) (by omega) (fun e => by rw [Bool.and_eq_true, decide_eq_true_iff] at e; exact e.2) hfy hsy hTy2 hPh2 (hbw.trans hK2.bel) (St.start hz2 hW2)) ?_
      rintro e w3 ⟨rfl, _, hk3, T3, hW3, hT3⟩
      refine ⟨rfl, T3, _, ⟨rfl, fun e => ?_⟩, hW3, hk3⟩
      have e5 : (ok && decide (dp + 1 ≤ 50) && okT 1 (dp + 1) (.mk cop cnm cpr ck cb cn ct cph cks)) = true := by simpa using e
      rw [hT3 e5, hT' (by rw [Bool.and_eq_true, Bool.and_eq_true] at e5; exact e5.1.1)]
      simp
    · rintro e w3 ⟨rfl, T3, bad3, ⟨rfl, hT3⟩, hW3, hK3⟩
      have e4 : (ok && decide (dp + 1 ≤ 50) && okT 1 (dp + 1) (.mk cop cnm cpr ck cb cn ct cph cks)) = (ok && okT P dp (.mk cop cnm cpr ck cb cn ct cph cks)) := by
        rw [e1]
        cases h9 : okT 1 (dp + 1) (.mk cop cnm cpr ck cb cn ct cph cks)
        · simp
        · have := okT_deep 1 (dp + 1) cop cnm cpr ck cb cn ct cph cks h9
          rw [show decide (dp + 1 ≤ 50) = true by simp [this], Bool.and_true]
      rw [e4] at hW3 hT3
      refine ⟨rfl, hB, hk.trans hK3, _, hW3, fun e => ?_⟩
      rw [hT3 (by rw [e]; rfl), e2]
      simp
end Go.Proofs.YtkcnpbckmdgfnaaGreatDoor
