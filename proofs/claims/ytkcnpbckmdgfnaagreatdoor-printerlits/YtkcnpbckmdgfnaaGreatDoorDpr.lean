/-
  One deeper; what stands in brackets.
-/
import Derived.Test.YtkcnpbckmdgfnaaGreatDoorExz
namespace Go.Proofs.YtkcnpbckmdgfnaaGreatDoor
open Go.ChangeShapes Go.WideShapes Go.ChangeAt Go.RowKit
set_option linter.unusedSimpArgs false
set_option linter.unusedVariables false

/-- Function K reads as p does, of fewer than n words. -/
def Reads (B E K : Nat) (p : PR) (n : Nat) : Prop := ∀ (w : World) (d : Nat) (L : List Tk), L.length < n → Rd w B E d L → Calls Tryz.prog K #[rp B] w (Ans w B E d (p d L) (IsEx w.heap.size))
def Enters (K : Nat) : Prop := ∀ args w, (callFunc K args).run Tryz.prog w = .ok (.enter K args) w
/-- The depth is turned. -/
theorem Rd.setDeep {w : World} {B E d : Nat} {L : List Tk} (h : Rd w B E d L) (e : Nat) (he : e ≤ 50) : Rd (w.setCell ⟨B, 2, none⟩ (.int .i64 e)) B E e L := by
  obtain ⟨p, cap, h0, h1, h2⟩ := h.c0
  exact ⟨⟨p, cap, (set_at _ _ _ (by decide)).trans h0, h1, h2.only (only_set _ _ _ _)⟩, (set_at _ _ _ (by decide)).trans h.c1, set_same h.c2, fun j => (set_fr _ _ _ _).trans (h.fr j), h.few, he⟩
set_option maxRecDepth 100000 in
set_option maxHeartbeats 1000000 in
theorem deeper_any {B E K n : Nat} {p : PR} (hK : Enters K) (hp : Reads B E K p n) {w : World} {d : Nat} {L : List Tk} (h : Rd w B E d L) (hne : L ≠ []) (hl : L.length ≤ n) :
    Calls Tryz.prog 126 #[rp B, .func (.func K) #[rp B] #[]] w (Ans w B E d (deepP E p d L) (IsEx w.heap.size)) := by
  have hlt := h.lt
  have hd := h.deep
  have hR := fun w1 (hb : Below w.heap.size w w1) => h.below hb
  have c2 := h.c2
  have hq := fun w1 (hb : Below w.heap.size w w1) => refusal_any (w := w1) (hR w1 hb) 82
  have hT := fun w1 (hb : Below w.heap.size w w1) => take_ne (hR w1 hb) hne
  have htl : L.tail.length < n := by
    have := List.length_pos_iff.2 hne
    simp; omega
  clear h
  by_cases h50 : d = 50
  · subst h50
    have e : deepP E p 50 L = .bad (placeL E L) 82 := by unfold deepP; rw [if_pos rfl]
    rw [e]
    unfold refV at hq
    clear hR hT hK hp e
    replace hq : Hid _ := hq
    have hz : (((50 : Nat) : Int) == 50) = true := by decide
    go_enter Tryz.func126, Tryz.ntmps126
    go_wp2_with (go_at_call 86; refine Calls.mono (hq.out _ (below_new _ _)) ?_; rintro e w1 ⟨rfl, hb1⟩)
    exact end_bad rfl (Below.only _ (below_on (below_new _ _) hb1))
  · have e : deepP E p d L = p (d + 1) L.tail := by unfold deepP; rw [if_neg h50]
    rw [e]
    have hz : ((d : Int) == 50) = false := by rw [beq_eq_false_iff_ne]; omega
    have hp1 := fun (w1 : World) (hr : Rd w1 B E d L.tail) => hp (w1.setCell ⟨B, 2, none⟩ (.int .i64 (d + 1))) (d + 1) L.tail htl (hr.setDeep (d + 1) (by omega))
    unfold Enters at hK
    cases hX : p (d + 1) L.tail with
    | bad a y =>
      rw [hX] at hp1
      clear hq hR e hp
      replace hT : Hid _ := hT
      replace hp1 : Hid _ := hp1
      replace hX : Hid _ := hX
      go_enter Tryz.func126, Tryz.ntmps126
      go_wp2_with (first
        | (go_at_call 89; refine Calls.mono (hT.out _ (below_new _ _)) ?_; rintro e w1 ⟨rfl, ho1, hr1⟩; have f2 := hr1.fr 2; have k2 := hr1.c2; have hh := hp1.out _ hr1)
        | ((with_reducible refine Calls.mono hh ?_); clear hh; rintro e w2 ⟨ho2, rfl⟩))
      exact end_bad rfl (((only_of_below (below_new w _)).trans ho1).trans ((only_set _ _ _ _).trans ho2))
    | ok x M =>
      rw [hX] at hp1
      clear hq hR e hp
      replace hT : Hid _ := hT
      replace hp1 : Hid _ := hp1
      replace hX : Hid _ := hX
      go_enter Tryz.func126, Tryz.ntmps126
      go_upto_region 7 with (first
        | (go_at_call 89; refine Calls.mono (hT.out _ (below_new _ _)) ?_; rintro e w1 ⟨rfl, ho1, hr1⟩; have f2 := hr1.fr 2; have k2 := hr1.c2; have hh := hp1.out _ hr1)
        | ((with_reducible refine Calls.mono hh ?_); clear hh; rintro e w2 ⟨ho2, _, rfl, ⟨sp, sn, sc, rfl, hx⟩, hr2⟩; have f3 := hr2.fr 2; have k3 : w2.cell? ⟨B, 2, none⟩ = some (.int .i64 ((d : Int) + 1)) := hr2.c2; have hl2 := hr2.lt; have hne2 : ¬ B = w2.heap.size := (by omega)))
      have hoA := ho1.trans ((only_set _ _ _ _).trans ho2)
      have hb3 := below_new (w2.setCell ⟨B, 2, none⟩ (.int .i64 (d : Int))) (.cells #[.int .i64 (opE x), .slice sp sn sc, .string (txt (nmE x)), .string (txt (prE x)), .int .i64 (kE x), .bool (bE x), .int .i64 (nE x), .string (txt (tE x)), .slice none 0 0] 39)
      have hr3 := (hr2.setDeep d hd).below hb3
      have hsz : (w2.setCell ⟨B, 2, none⟩ (.int .i64 (d : Int))).heap.size = w2.heap.size := World.size_setCell _ _ _
      have hs1 : w.heap.size + 1 ≤ w1.heap.size := by have := ho1.size; simpa using this
      have hxw := ExAt.weak (c := w.heap.size + 1) (by rw [World.size_setCell]; exact hs1) x _ hx
      have hx3 := ((ExAt.only (only_set w2 B 2 (.int .i64 (d : Int))) (by omega) x _ hxw).keep hb3)
      have hoW := hoA.trans ((only_set w2 B 2 (.int .i64 (d : Int))).trans (only_of_below (B := B) hb3))
      have hcX := fun i v h => alloc_cell (i := i) (v := v) (t := 39) (cs := #[.int .i64 (opE x), .slice sp sn sc, .string (txt (nmE x)), .string (txt (prE x)), .int .i64 (kE x), .bool (bE x), .int .i64 (nE x), .string (txt (tE x)), .slice none 0 0]) (w2.setCell ⟨B, 2, none⟩ (.int .i64 (d : Int))) h
      rw [hsz] at hcX
      have z0 := hcX 0 _ rfl
      have z1 := hcX 1 _ rfl
      have z2 := hcX 2 _ rfl
      have z3 := hcX 3 _ rfl
      have z4 := hcX 4 _ rfl
      have z5 := hcX 5 _ rfl
      have z6 := hcX 6 _ rfl
      have z7 := hcX 7 _ rfl
      have z8 := hcX 8 _ rfl
      obtain ⟨yf, yl, yn, y0, y1, y2, y3, y4, y5, y6, y7, y8⟩ := res_cells hoW hlt
      clear hcX hb3 hsz hx hxw hoA ho1 ho2 hr2 f3 k3 f2 k2 hr1
      generalize (w2.setCell ⟨B, 2, none⟩ (.int .i64 (d : Int))).alloc (.cells #[.int .i64 (opE x), .slice sp sn sc, .string (txt (nmE x)), .string (txt (prE x)), .int .i64 (kE x), .bool (bE x), .int .i64 (nE x), .string (txt (tE x)), .slice none 0 0] 39) = W at *
      replace hoW : Hid _ := hoW
      replace hr3 : Hid _ := hr3
      replace hx3 : Hid _ := hx3
      go_wp2_with fail
      exact ret_ex (.inl rfl) Tryz.results126 rfl rfl hoW.out hlt hx3.out hr3.out rfl rfl rfl rfl rfl rfl rfl rfl rfl
end Go.Proofs.YtkcnpbckmdgfnaaGreatDoor
