/-
  Rpe: turned for the seat of the expressions.
-/
import Derived.Test.YtkcnpbckmdgfnaaDoorRex
import Derived.Test.YtkcnpbckmdgfnaaDoorPrx
namespace Go.Proofs.YtkcnpbckmdgfnaaDoor
open Go.ChangeShapes Go.WideShapes Go.ChangeAt Go.RowKit
set_option linter.unusedSimpArgs false
set_option linter.unusedVariables false
theorem start_writer {w : World} {B b : Nat} (hb : b = w.heap.size) (hB : B ≤ b) : WAt B b [] 0 false (w.alloc (.cells #[.slice none 0 0, .int .i64 0, .bool false] 45)) := by
  subst hb
  exact ⟨hB, .slice none 0 0, [], heap_alloc_new w _, Wq.nil, World.ownsRow_nil _ _ _ _⟩
set_option maxRecDepth 100000 in
set_option maxHeartbeats 2000000 in
theorem rprint_any (x : Tr) (kv pv : Value) (w : World) (hTb : Tabs w) (hfine : fineT x) (hsh : Short x) (hTA : TAt w x kv) (hPA : PhAt w x.ph pv) :
    Calls Tryd.prog 6 #[x.val kv pv] w fun e w' => e = .returned (.tuple #[.string (txt (prT x).1), .int .i64 (prT x).2]) ∧ Below w.heap.size w w' := by
  obtain ⟨op, nm, pr, k, bb, n, t, ph, ks⟩ := x
  have hTA0 := hTA
  rw [TAt] at hTA0
  obtain ⟨kp, kc, rfl, _⟩ := hTA0
  have hPA0 := hPA
  obtain ⟨pa, pc, rfl, _⟩ := hPA0
  have eph : (Tr.mk op nm pr k bb n t ph ks).ph = ph := rfl
  rw [eph] at hPA ⊢
  unfold Tr.val
  dsimp only
  have b1 := below_new w (.cells #[.int .i64 op, .slice kp ks.length kc, .string (txt nm), .string (txt pr), .int .i64 k, .bool bb, .int .i64 n, .string (txt t), .slice pa ph.length pc] 29)
  have b2 := below_new (w.alloc (.cells #[.int .i64 op, .slice kp ks.length kc, .string (txt nm), .string (txt pr), .int .i64 k, .bool bb, .int .i64 n, .string (txt t), .slice pa ph.length pc] 29)) (.cells #[.slice none 0 0, .int .i64 0, .bool false] 45)
  have z1 : (w.alloc (.cells #[.int .i64 op, .slice kp ks.length kc, .string (txt nm), .string (txt pr), .int .i64 k, .bool bb, .int .i64 n, .string (txt t), .slice pa ph.length pc] 29)).heap.size = w.heap.size + 1 := by simp
  have hbb := below_on b1 b2
  have hz : w.heap.size ≤ ((w.alloc (.cells #[.int .i64 op, .slice kp ks.length kc, .string (txt nm), .string (txt pr), .int .i64 k, .bool bb, .int .i64 n, .string (txt t), .slice pa ph.length pc] 29)).alloc (.cells #[.slice none 0 0, .int .i64 0, .bool false] 45)).heap.size := hbb.size
  have hW := start_writer (w := (w.alloc (.cells #[.int .i64 op, .slice kp ks.length kc, .string (txt nm), .string (txt pr), .int .i64 k, .bool bb, .int .i64 n, .string (txt t), .slice pa ph.length pc] 29))) (B := w.heap.size) (b := w.heap.size + 1) z1.symm (by omega)
  have hD := fun (_ : Unit) => dok_any hTb (b := w.heap.size + 1) (.mk op nm pr k bb n t ph ks) 0 true _ _ [] [] _ _ (by decide) (by decide) (fun _ => by decide) hfine hsh hTA hPA hbb (St.start hz hW)
  unfold Tr.val at hD
  dsimp only at hD
  have n1 := (b2.block w.heap.size (by omega)).trans (heap_alloc_new w (.cells #[.int .i64 op, .slice kp ks.length kc, .string (txt nm), .string (txt pr), .int .i64 k, .bool bb, .int .i64 n, .string (txt t), .slice pa ph.length pc] 29))
  have y0 := box_cell n1 0
  have y1 := box_cell n1 1
  have y2 := box_cell n1 2
  have y3 := box_cell n1 3
  have y4 := box_cell n1 4
  have y5 := box_cell n1 5
  have y6 := box_cell n1 6
  have y7 := box_cell n1 7
  have y8 := box_cell n1 8
  simp only [List.getElem?_toArray, List.getElem?_cons_zero, List.getElem?_cons_succ] at y0 y1 y2 y3 y4 y5 y6 y7 y8
  rw [Bool.true_and, List.nil_append] at hD
  have hfin : ∀ (w1 : World) (T1 : List UInt8), WAt w.heap.size (w.heap.size + 1) T1 0 (!okT 1 0 (.mk op nm pr k bb n t ph ks)) w1 → (okT 1 0 (.mk op nm pr k bb n t ph ks) = true → T1 = [] ++ txT 1 (.mk op nm pr k bb n t ph ks)) →
      Calls Tryd.prog 10 #[.pointer (some ⟨w.heap.size + 1, 0, none⟩)] w1 fun e w' => e = .returned (.tuple #[.string (txt (prT (.mk op nm pr k bb n t ph ks)).1), .int .i64 (prT (.mk op nm pr k bb n t ph ks)).2]) ∧ Below w1.heap.size w1 w' := by
    intro w1 T1 h1 h2
    have h3 := rdone_any w1 h1
    have e1 : doneT (!okT 1 0 (.mk op nm pr k bb n t ph ks)) T1 = (prT (.mk op nm pr k bb n t ph ks)).1 ∧ doneE (!okT 1 0 (.mk op nm pr k bb n t ph ks)) T1 = (prT (.mk op nm pr k bb n t ph ks)).2 := by
      unfold prT doneT doneE
      cases hq : okT 1 0 (.mk op nm pr k bb n t ph ks)
      · exact ⟨rfl, rfl⟩
      · have := h2 hq
        rw [List.nil_append] at this
        subst this
        by_cases h4 : (txT 1 (.mk op nm pr k bb n t ph ks)).length ≤ 4096
        · simp [h4]
        · simp [h4]
    rw [e1.1, e1.2] at h3
    exact h3
  generalize txt (prT (.mk op nm pr k bb n t ph ks)).1 = AN at *
  generalize (prT (.mk op nm pr k bb n t ph ks)).2 = AE at *
  generalize okT 1 0 (.mk op nm pr k bb n t ph ks) = oK at *
  generalize txT 1 (.mk op nm pr k bb n t ph ks) = TX at *
  replace hD : Hid _ := hD
  replace hfin : Hid _ := hfin
  replace hbb : Hid _ := hbb
  replace hW : Hid _ := hW
  clear b1 b2 n1 hTb hfine hsh hTA hPA
  go_enter Tryd.func6, Tryd.ntmps6
  go_wp2_with fail
  go_at_call 9
  refine Calls.mono (hD.out ()) ?_
  rintro e w1 ⟨rfl, hB1, hK1, T1, hW1, hT1⟩
  have hh := hfin.out w1 T1 hW1 hT1
  replace hh : Hid _ := hh
  replace hW1 : Hid _ := hW1
  replace hT1 : Hid _ := hT1
  go_wp2_with fail
  go_at_call 10
  refine Calls.mono hh.out ?_
  rintro e w2 ⟨rfl, hb2⟩
  go_wp2_with fail
  go_returns
  exact ⟨rfl, (hbb.out.trans hK1.bel).trans (hb2.mono (Nat.le_trans hbb.out.size hK1.size))⟩
end Go.Proofs.YtkcnpbckmdgfnaaDoor
