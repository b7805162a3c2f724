/-
  The readers of a level.
  The readers of sums, products, of AND and OR.
-/
import Derived.Test.YtkcnpbckmdgfnaaGreatDoorIns
import Derived.Deep.RegionWith
namespace Go.Proofs.YtkcnpbckmdgfnaaGreatDoor
open Go.ChangeShapes Go.WideShapes Go.ChangeAt Go.RowKit
set_option linter.unusedSimpArgs false
set_option linter.unusedVariables false

theorem level_any (B : Nat) (p : Option Addr) (n c : Nat) (w : World) :
    Calls Tryz.prog 70 #[rp B, .slice p n c] w fun e w' => e = .returned (.func (.func 96) #[] #[.pointer (some ⟨w.heap.size, 0, none⟩), .pointer (some ⟨w.heap.size + 1, 0, none⟩)]) ∧ w' = (w.alloc (.cells #[rp B] 75)).alloc (.cells #[.slice p n c] 156) := by
  have hmf : ∀ (fn : Fn) (first cap : Array Value) (w : World), (Instr.makeFunc fn first cap).run Tryz.prog w = .ok (.func fn first cap) w := fun _ _ _ _ => rfl
  go_enter Tryz.func70, Tryz.ntmps70
  go_wp2_with fail
  go_returns
  exact ⟨rfl, rfl⟩
/-- An expression lies in block X; its parts elsewhere. -/
structure XAt (w : World) (X b : Nat) (x : Ex) : Prop where
  cells : ∃ sp sn sc, Row9 w X 0 x (.slice sp sn sc) ∧ ExAt w (fun g => b ≤ g ∧ g ≠ X) x (.slice sp sn sc)
  fr : ∀ i, w.frozen? ⟨X, i, none⟩ = false
theorem XAt.only {w w' : World} {X b B : Nat} {x : Ex} (h : XAt w X b x) (ho : Only (· = B) w w') (hX : X ≠ B) (hb : B < b) : XAt w' X b x := by
  obtain ⟨sp, sn, sc, hr, hx⟩ := h.cells
  refine ⟨⟨sp, sn, sc, hr.only ho hX, ExAt.onlyS ho (fun g hg e => by subst e; exact absurd hg.1 (by omega)) x _ hx⟩, fun i => ?_⟩
  exact (ho.frozen (World.block_lt_of_cell? w _ hr.1) hX).trans (h.fr i)
/-- It has been put into a new block. -/
theorem XAt.new {w : World} {b : Nat} {x : Ex} {sp : Option Addr} {sn sc : Nat} (hx : ExAt w (b ≤ ·) x (.slice sp sn sc)) : XAt (w.alloc (.cells #[.int .i64 (opE x), .slice sp sn sc, .string (txt (nmE x)), .string (txt (prE x)), .int .i64 (kE x), .bool (bE x), .int .i64 (nE x), .string (txt (tE x)), .slice none 0 0] 39)) w.heap.size b x := by
  have hb := below_new w (.cells #[.int .i64 (opE x), .slice sp sn sc, .string (txt (nmE x)), .string (txt (prE x)), .int .i64 (kE x), .bool (bE x), .int .i64 (nE x), .string (txt (tE x)), .slice none 0 0] 39)
  refine ⟨⟨sp, sn, sc, ?_, ?_⟩, fun i => alloc_fr w _ _ i⟩
  · exact row9_new rfl rfl rfl rfl rfl rfl rfl rfl rfl
  · exact (ExAt.weakS (fun g hg => ⟨hg.1, by have := hg.2; omega⟩) x _ (ExAt.lt x _ hx)).keep hb
theorem put9f (w1 : World) (R : Nat) (v0 v1 v2 v3 v4 v5 v6 v7 v8 : Value) (a : Addr) : (((((((((w1.setCell ⟨R, 0, none⟩ v0).setCell ⟨R, 1, none⟩ v1).setCell ⟨R, 2, none⟩ v2).setCell ⟨R, 3, none⟩ v3).setCell ⟨R, 4, none⟩ v4).setCell ⟨R, 5, none⟩ v5).setCell ⟨R, 6, none⟩ v6).setCell ⟨R, 7, none⟩ v7).setCell ⟨R, 8, none⟩ v8).frozen? a = w1.frozen? a := by
  simp only [World.frozen?_setCell]
theorem levelG_stop {ops : List (List UInt8 × Int)} {p : PR} {d : Nat} {x : Ex} {L : List Tk} (k : Nat) (h : opOf ops L = 0) : levelG ops p d k x L = .ok x L := by
  cases k with
  | zero => rfl
  | succ k => unfold levelG; rw [if_pos h]
theorem opOf_cons {ops : List (List UInt8 × Int)} {L : List Tk} (h : ¬ opOf ops L = 0) : L ≠ [] := fun e => by
  subst e
  refine h ?_
  unfold opOf
  rw [List.find?_eq_none.2]
  intro s _
  simp [isW]
set_option maxRecDepth 100000 in
set_option maxHeartbeats 1000000 in
theorem level1_any {B E K n : Nat} {p : PR} (hK : Enters K) (hp : Reads B E K p n) (hsh : Sh p) (S : List (List UInt8 × Int)) (hs : S.length ≤ 100) (h0 : ∀ i, i < S.length → (S.getD i ([], 0)).2 ≠ 0)
    {w : World} {d : Nat} {L : List Tk} (h : Rd w B E d L) (hl : L.length < n) (b1 b2 : Nat) (q : Option Addr) (c : Nat) (hb1 : B < b1) (hb2 : B < b2) (k1 : w.cell? ⟨b1, 0, none⟩ = some (rp B)) (k2 : w.cell? ⟨b2, 0, none⟩ = some (.slice q S.length c)) (hS : OpsAt w B q S) :
    Calls Tryz.prog 96 #[.func (.func K) #[rp B] #[], .pointer (some ⟨b1, 0, none⟩), .pointer (some ⟨b2, 0, none⟩)] w (Ans w B E d (levelP S p d L) (IsEx w.heap.size)) := by
  have hlt := h.lt
  have h0' := h.below (below_new w (.cells #[.int .i64 0, .slice none 0 0, .string ⟨#[]⟩, .string ⟨#[]⟩, .int .i64 0, .bool false, .int .i64 0, .string ⟨#[]⟩, .slice none 0 0] 39))
  have hP := fun (_ : Unit) => hp _ d L hl h0'
  have hPs := hsh d L
  have hg1 := World.block_lt_of_cell? w _ k1
  have hg2 := World.block_lt_of_cell? w _ k2
  have hA := fun (wr : World) (ho : Only (· = B) w wr) (M : List Tk) (hr : Rd wr B E d M) => passOne_any hr S q c (OpsAt.only (p := q) (S := S) hS ho) hs h0
  unfold Enters at hK
  clear h h0'
  cases hX : p d L with
  | bad a y =>
    have e : levelP S p d L = .bad a y := by unfold levelP; rw [hX]; rfl
    rw [e]
    rw [hX] at hP
    clear e hp hPs hA hS
    replace hP : Hid _ := hP
    replace hX : Hid _ := hX
    go_enter Tryz.func96, Tryz.ntmps96
    go_wp2_with (have hh := hP.out (); (with_reducible refine Calls.mono hh ?_); clear hh; rintro e w1 ⟨ho1, rfl⟩)
    exact end_bad rfl ((only_of_below (below_new w (.cells #[.int .i64 0, .slice none 0 0, .string ⟨#[]⟩, .string ⟨#[]⟩, .int .i64 0, .bool false, .int .i64 0, .string ⟨#[]⟩, .slice none 0 0] 39))).trans ho1)
  | ok x M =>
    have e : levelP S p d L = levelG S p d M.length x M := by unfold levelP; rw [hX]; rfl
    rw [e]
    rw [hX] at hP
    have hML := hPs x M hX
    clear e hPs
    generalize hF : levelG S p d M.length x M = F
    replace hP : Hid _ := hP
    replace hX : Hid _ := hX
    replace hF : Hid _ := hF
    replace hA : Hid _ := hA
    replace hS : Hid _ := hS
    replace k1 : Hid _ := k1
    replace k2 : Hid _ := k2
    go_enter Tryz.func96, Tryz.ntmps96
    go_wp2_with (have hh := hP.out (); (with_reducible refine Calls.mono hh ?_); clear hh; rintro e w1 ⟨ho1, _, rfl, ⟨sp, sn, sc, rfl, hx⟩, hr1⟩)
    have hs1 : w.heap.size + 1 ≤ w1.heap.size := by have := ho1.size; simpa using this
    have hX1 := XAt.new (w := w1) (b := w.heap.size + 1) (ExAt.weak (by simp) x _ hx)
    have hr2 := hr1.below (below_new w1 (.cells #[.int .i64 (opE x), .slice sp sn sc, .string (txt (nmE x)), .string (txt (prE x)), .int .i64 (kE x), .bool (bE x), .int .i64 (nE x), .string (txt (tE x)), .slice none 0 0] 39))
    have ho2 := ho1.trans (only_of_below (B := B) (below_new w1 (.cells #[.int .i64 (opE x), .slice sp sn sc, .string (txt (nmE x)), .string (txt (prE x)), .int .i64 (kE x), .bool (bE x), .int .i64 (nE x), .string (txt (tE x)), .slice none 0 0] 39)))
    have hz1 : w1.heap.size < (w1.alloc (.cells #[.int .i64 (opE x), .slice sp sn sc, .string (txt (nmE x)), .string (txt (prE x)), .int .i64 (kE x), .bool (bE x), .int .i64 (nE x), .string (txt (tE x)), .slice none 0 0] 39)).heap.size := by simp
    have hXw : w.heap.size + 1 ≤ w1.heap.size := hs1
    have hBX : B < w1.heap.size := by omega
    generalize w1.heap.size = Xb at *
    clear hx hr1 ho1
    replace hX1 : Hid _ := hX1
    replace hr2 : Hid _ := hr2
    replace ho2 : Hid _ := ho2
    go_loopg [6] (M.length) (fun k v6 wr => ∃ (x : Ex) (M : List Tk), Only (· = B) (w.alloc (.cells #[.int .i64 0, .slice none 0 0, .string ⟨#[]⟩, .string ⟨#[]⟩, .int .i64 0, .bool false, .int .i64 0, .string ⟨#[]⟩, .slice none 0 0] 39)) wr ∧ XAt wr Xb (w.heap.size + 1) x ∧ Rd wr B E d M ∧ M.length ≤ L.length ∧ M.length ≤ k ∧ levelG S p d k x M = F)
    case atStart => exact ⟨x, M, ho2.out, hX1.out, hr2.out, hML, Nat.le_refl _, hF.out⟩
    case round =>
      clear hX1 hr2 ho2 hML hF hX hP
      obtain ⟨x, M, ho, hxa, hr, hML, hMk, hF⟩ := hrel
      have hoW := (only_of_below (B := B) (below_new w (.cells #[.int .i64 0, .slice none 0 0, .string ⟨#[]⟩, .string ⟨#[]⟩, .int .i64 0, .bool false, .int .i64 0, .string ⟨#[]⟩, .slice none 0 0] 39))).trans ho
      have hAr := fun (_ : Unit) => hA.out wr hoW M hr
      have q1 := (hoW.cell hg1 (by omega)).trans k1.out
      have q2 := (hoW.cell hg2 (by omega)).trans k2.out
      by_cases hop : opOf S M = 0
      · have e : passedO S M = M := by unfold passedO; rw [if_pos hop]
        rw [hop, e] at hAr
        rw [levelG_stop _ hop] at hF
        subst hF
        clear e hr
        replace hAr : Hid _ := hAr
        replace ho : Hid _ := ho
        replace hxa : Hid _ := hxa
        replace hop : Hid _ := hop
        go_upto_region 4 with (have hh := hAr.out (); go_at_call 97; (with_reducible refine Calls.mono hh ?_); clear hh; rintro e w2 ⟨rfl, ho2, hr2⟩)
        have hxa2 := hxa.out.only ho2 (by omega) (by omega)
        have hW := ho.out.trans ho2
        obtain ⟨sp, sn, sc, hrow, hx2⟩ := hxa2.cells
        obtain ⟨z0, z1, z2, z3, z4, z5, z6, z7, z8⟩ := hrow
        obtain ⟨yf, yl, yn, y0, y1, y2, y3, y4, y5, y6, y7, y8⟩ := res_cells hW hlt
        have hx3 := ExAt.weakS (fun g hg => hg.1) x _ hx2
        clear hx2 hxa2 ho2 ho hxa
        replace hW : Hid _ := hW
        replace hx3 : Hid _ := hx3
        replace hr2 : Hid _ := hr2
        go_wp2_with fail
        exact ret_ex (.inl rfl) Tryz.results96 rfl rfl hW.out hlt hx3.out hr2.out rfl rfl rfl rfl rfl rfl rfl rfl rfl
      · have hop2 : (opOf S M == 0) = false := by rw [beq_eq_false_iff_ne]; exact hop
        have e : passedO S M = M.tail := by unfold passedO; rw [if_neg hop]
        rw [e] at hAr
        have hMn : 1 ≤ M.length := List.length_pos_iff.2 (opOf_cons hop)
        obtain ⟨k', hk'⟩ : ∃ k', gk = k' + 1 := ⟨gk - 1, by omega⟩
        rw [hk'] at hF
        have hF2 : ((p d M.tail).then fun y L' => levelG S p d k' (.two (opOf S M) x y) L') = F := by rw [← hF, levelG, if_neg hop]
        have hpt := fun (w2 : World) (hr : Rd w2 B E d M.tail) => hp w2 d M.tail (by simp; omega) hr
        have htl : M.tail.length + 1 = M.length := by simp; omega
        clear hF e hr
        generalize opOf S M = op at *
        obtain ⟨sp, sn, sc, hrow, hx0⟩ := hxa.cells
        have hxf := hxa.fr
        clear hxa
        cases hY : p d M.tail with
        | bad a y =>
          rw [hY] at hpt hF2
          have hF3 : Res.bad a y = F := hF2
          subst hF3
          clear hF2 hY
          replace hAr : Hid _ := hAr
          replace hpt : Hid _ := hpt
          replace ho : Hid _ := ho
          replace hrow : Hid _ := hrow
          replace hx0 : Hid _ := hx0
          replace hop : Hid _ := hop
          replace hxf : Hid _ := hxf
          go_upto_region 5 with (have hh := hAr.out (); go_at_call 97; (with_reducible refine Calls.mono hh ?_); clear hh; rintro e w2 ⟨rfl, ho2, hr2⟩)
          have hW := ho.out.trans ho2
          have hXB : Xb ≠ B := by omega
          obtain ⟨z0, z1, z2, z3, z4, z5, z6, z7, z8⟩ := Row9.only (x := x) (ks := .slice sp sn sc) hrow.out ho2 hXB
          have hq2 := fun W (hb : Below w2.heap.size w2 W) => hpt.out W (hr2.below hb)
          clear ho2 hr2
          replace hq2 : Hid _ := hq2
          replace hW : Hid _ := hW
          have hq3 := fun (_ : Unit) => hq2.out _ (Below.drew (Below.refl w2.heap.size w2))
          have hz2 : ∀ i, (w2.drew).cell? ⟨Xb, i, none⟩ = w2.cell? ⟨Xb, i, none⟩ := fun i => rfl
          have hfin : ∀ act w3, act.defers = [] → Only (· = B) w2.drew w3 → bodyPost Tryz.prog Tryz.f96 (Ans w B E d (.bad a y) (IsEx w.heap.size)) (.panic [{ v := .iface 109 (refV a y), recovered := false }]) act w3 := fun act w3 hd ho3 =>
            end_bad hd ((only_of_below (below_new w (.cells #[.int .i64 0, .slice none 0 0, .string ⟨#[]⟩, .string ⟨#[]⟩, .int .i64 0, .bool false, .int .i64 0, .string ⟨#[]⟩, .slice none 0 0] 39))).trans (hW.out.trans ((only_of_below (B := B) (Below.drew (Below.refl w2.heap.size w2))).trans ho3)))
          replace hq3 : Hid _ := hq3
          replace hfin : Hid _ := hfin
          refine wp_region_any (by kernel_rfl) ?_
          change wpAny _ _ _ _ _ _ _ (World.drew _)
          refine wpAny_take (i := 0) (v := .int .i64 op) rfl (by kernel_rfl) (by kernel_rfl) (by kernel_rfl) (fun _ _ _ h => h) (Or.inl ⟨by rfl, by intro w; go_simp⟩) ?_
          refine wpAny_take (i := 2) (v := .func (.func K) #[rp B] #[]) rfl (by kernel_rfl) (by kernel_rfl) (by kernel_rfl) (fun _ _ _ h => h) (Or.inl ⟨by rfl, by intro w; go_simp⟩) ?_
          refine wpAny_ready (rs := [1, 3]) (by kernel_rfl) (by simp) ?_
          refine AllReady.cons rfl (fun K hK => ?_) ?_
          · go_simp
            (refine hK _ _ ?_; clear hK K)
            refine wpAny_ready (rs := [3]) (by kernel_rfl) (by simp) ?_
            refine AllReady.cons rfl (fun K hK => ?_) AllReady.nil
            go_simp
            have hh := hq3.out ()
            (with_reducible refine Calls.mono hh ?_)
            rintro e w3 ⟨ho3, rfl⟩
            exact hfin.out _ _ rfl ho3
          · refine AllReady.cons rfl (fun K hK => ?_) AllReady.nil
            go_simp
            have hh := hq3.out ()
            (with_reducible refine Calls.mono hh ?_)
            rintro e w3 ⟨ho3, rfl⟩
            exact hfin.out _ _ rfl ho3
        | ok y M2 =>
          rw [hY] at hpt hF2
          have hF3 : levelG S p d k' (.two op x y) M2 = F := hF2
          have hM2 := hsh d M.tail y M2 hY
          clear hF2 hY
          replace hAr : Hid _ := hAr
          replace hpt : Hid _ := hpt
          replace ho : Hid _ := ho
          replace hrow : Hid _ := hrow
          replace hx0 : Hid _ := hx0
          replace hop : Hid _ := hop
          replace hxf : Hid _ := hxf
          replace hF3 : Hid _ := hF3
          go_upto_region 5 with (have hh := hAr.out (); go_at_call 97; (with_reducible refine Calls.mono hh ?_); clear hh; rintro e w2 ⟨rfl, ho2, hr2⟩)
          have hW := ho.out.trans ho2
          have hXB : Xb ≠ B := by omega
          have hrow2 := Row9.only (x := x) (ks := .slice sp sn sc) hrow.out ho2 hXB
          have hx2 := ExAt.onlyS ho2 (fun g hg e => by subst e; exact absurd hg.1 (by omega)) x _ hx0.out
          obtain ⟨z0, z1, z2, z3, z4, z5, z6, z7, z8⟩ := hrow2
          have hrow2 : Row9 w2 Xb 0 x (.slice sp sn sc) := ⟨z0, z1, z2, z3, z4, z5, z6, z7, z8⟩
          have hlX := World.block_lt_of_cell? w2 _ z0
          have hfX : ∀ i, w2.frozen? ⟨Xb, i, none⟩ = false := fun i => (ho2.frozen (World.block_lt_of_cell? wr _ hrow.out.1) hXB).trans (hxf.out i)
          have hq2 := fun W (hb : Below w2.heap.size w2 W) => hpt.out W (hr2.below hb)
          clear ho2 hr2
          replace hq2 : Hid _ := hq2
          replace hW : Hid _ := hW
          replace hrow2 : Hid _ := hrow2
          replace hx2 : Hid _ := hx2
          replace hfX : Hid _ := hfX
          go_region_with (first
            | (have hh := hq2.out _ (Below.drew (Below.refl _ _)); (with_reducible refine Calls.mono hh ?_); clear hh; rintro e w3 ⟨ho3, _, rfl, ⟨tp, tn, tc, rfl, hy⟩, hr3⟩; have ho3' := (only_of_below (B := B) (Below.drew (Below.refl w2.heap.size w2))).trans ho3; clear ho3; have hrow3 := Row9.only (x := x) (ks := .slice sp sn sc) hrow2.out ho3' hXB; obtain ⟨t0, t1, t2, t3, t4, t5, t6, t7, t8⟩ := hrow3; have hrow3 : Row9 w3 Xb 0 x (.slice sp sn sc) := ⟨t0, t1, t2, t3, t4, t5, t6, t7, t8⟩; have hlX3 : Xb < w3.heap.size := ho3'.lt hlX; have hf3 : ∀ i, w3.frozen? ⟨Xb, i, none⟩ = false := (fun i => (ho3'.frozen hlX hXB).trans (hfX.out i)); replace hrow3 : Hid _ := hrow3; replace hf3 : Hid _ := hf3)
            | (go_at_call 98; refine Calls.mono (of_any _ _ _ _ _) ?_; rintro e w4 ⟨rfl, hb4⟩; have hk4 := Below.trans (B := w3.heap.size) (a := w3) (by repeat (first | exact Below.refl _ _ | refine Below.drew ?_ | refine Below.alloc ?_ (by simp) _)) (hb4.mono (by simp)); obtain ⟨s0, s1, s2, s3, s4, s5, s6, s7, s8⟩ := Row9.keep (x := x) (ks := .slice sp sn sc) hrow3.out hk4; have hf4 : ∀ i, w4.frozen? ⟨Xb, i, none⟩ = false := (fun i => (hk4.frozen (p := ⟨Xb, i, none⟩) hlX3).trans (hf3.out i))))
          all_goals
            have hx3 := ExAt.onlyS ho3' (fun g hg e => by subst e; exact absurd hg.1 (by omega)) x _ hx2.out
            have hs2 : w.heap.size + 1 ≤ w2.heap.size := by have := hW.out.size; simpa using this
            have hy3 := ExAt.weakS (S' := fun g => w.heap.size + 1 ≤ g ∧ g ≠ Xb) (fun g hg => by have hg2 : w2.heap.size ≤ g := hg; exact ⟨by omega, by omega⟩) y _ hy
            have h2 := two_at op hx3 hy3 ⟨by have := ho3'.size; omega, by omega⟩ hb4
            obtain ⟨c0, c1, c2, c3, c4, c5, c6, c7, c8, hoX⟩ := put9 (R := Xb) (v0 := .int .i64 op) (v1 := .slice (some ⟨w3.heap.size, 0, none⟩) 2 2) (v2 := .string ⟨#[]⟩) (v3 := .string ⟨#[]⟩) (v4 := .int .i64 0) (v5 := .bool false) (v6 := .int .i64 0) (v7 := .string ⟨#[]⟩) (v8 := .slice none 0 0) s0 s1 s2 s3 s4 s5 s6 s7 s8
            have hfz := put9f w4 Xb (.int .i64 op) (.slice (some ⟨w3.heap.size, 0, none⟩) 2 2) (.string ⟨#[]⟩) (.string ⟨#[]⟩) (.int .i64 0) (.bool false) (.int .i64 0) (.string ⟨#[]⟩) (.slice none 0 0)
            have hoW := hW.out.trans (ho3'.trans (only_of_below hk4))
            have hoW5 := only_put hoW (by simp; exact hXw) hoX
            have hr5 := (hr3.below hk4).turn hoX hBX
            have h5 := ExAt.onlyS hoX (fun g hg => hg.2) _ _ h2
            have hxa : XAt (((((((((w4.setCell ⟨Xb, 0, none⟩ (.int .i64 op)).setCell ⟨Xb, 1, none⟩ (.slice (some ⟨w3.heap.size, 0, none⟩) 2 2)).setCell ⟨Xb, 2, none⟩ (.string ⟨#[]⟩)).setCell ⟨Xb, 3, none⟩ (.string ⟨#[]⟩)).setCell ⟨Xb, 4, none⟩ (.int .i64 0)).setCell ⟨Xb, 5, none⟩ (.bool false)).setCell ⟨Xb, 6, none⟩ (.int .i64 0)).setCell ⟨Xb, 7, none⟩ (.string ⟨#[]⟩)).setCell ⟨Xb, 8, none⟩ (.slice none 0 0)) Xb (w.heap.size + 1) (.two op x y) := ⟨⟨_, _, _, ⟨c0, c1, c2, c3, c4, c5, c6, c7, c8⟩, h5⟩, fun i => (hfz _).trans (hf4 i)⟩
            clear c0 c1 c2 c3 c4 c5 c6 c7 c8 hfz hoX h5 h2 hx3 hy3 s0 s1 s2 s3 s4 s5 s6 s7 s8 hf4
            generalize (((((((((w4.setCell ⟨Xb, 0, none⟩ (.int .i64 op)).setCell ⟨Xb, 1, none⟩ (.slice (some ⟨w3.heap.size, 0, none⟩) 2 2)).setCell ⟨Xb, 2, none⟩ (.string ⟨#[]⟩)).setCell ⟨Xb, 3, none⟩ (.string ⟨#[]⟩)).setCell ⟨Xb, 4, none⟩ (.int .i64 0)).setCell ⟨Xb, 5, none⟩ (.bool false)).setCell ⟨Xb, 6, none⟩ (.int .i64 0)).setCell ⟨Xb, 7, none⟩ (.string ⟨#[]⟩)).setCell ⟨Xb, 8, none⟩ (.slice none 0 0)) = W5 at *
            replace hxa : Hid _ := hxa
            replace hoW5 : Hid _ := hoW5
            replace hr5 : Hid _ := hr5
            go_wp2_with fail
            go_roundg k'
            case measure => omega
            case rel => exact ⟨_, M2, hoW5.out, hxa.out, hr5.out, by omega, by omega, hF3.out⟩
end Go.Proofs.YtkcnpbckmdgfnaaGreatDoor
namespace Go.Proofs.YtkcnpbckmdgfnaaGreatDoor
open Go.ChangeShapes Go.WideShapes Go.ChangeAt Go.RowKit
set_option linter.unusedSimpArgs false
set_option linter.unusedVariables false

theorem enters25 : Enters 31 := enters_of Tryz.func31 (by kernel_rfl) rfl
theorem enters53 : Enters 71 := enters_of Tryz.func71 (by kernel_rfl) rfl
theorem enters74 : Enters 96 := enters_of Tryz.func96 (by kernel_rfl) rfl
theorem enters77 : Enters 99 := enters_of Tryz.func99 (by kernel_rfl) rfl
theorem enters131 : Enters 168 := enters_of Tryz.func168 (by kernel_rfl) rfl
theorem enters141 : Enters 179 := enters_of Tryz.func179 (by kernel_rfl) rfl
theorem enters160 : Enters 191 := enters_of Tryz.func191 (by kernel_rfl) rfl

theorem opsM_ne : ∀ i, i < opsM.length → (opsM.getD i ([], 0)).2 ≠ 0 := by decide
theorem opsM_at (w : World) (B : Nat) (hB : B < w.heap.size) : OpsAt (w.alloc (.cells #[.string ⟨#[42]⟩, .int .i64 14, .string ⟨#[47]⟩, .int .i64 15, .string ⟨#[37]⟩, .int .i64 16] 131)) B (some ⟨w.heap.size, 0, none⟩) opsM := by
  refine .inr ⟨w.heap.size, 0, rfl, hB, fun i hi => ?_⟩
  have hi' : i < 3 := hi
  obtain rfl | rfl | rfl : i = 0 ∨ i = 1 ∨ i = 2 := by omega
  all_goals exact ⟨alloc_cell w rfl, alloc_cell w rfl⟩
set_option maxRecDepth 100000 in
set_option maxHeartbeats 1000000 in
theorem prod_any {B E n : Nat} {p : PR} (hp : Reads B E 179 p n) (hsh : Sh p) : Reads B E 168 (levelP opsM p) n := by
  intro w d L hl h
  have hlt := h.lt
  have hb4 : Below w.heap.size w ((((w.alloc (.cells #[.int .i64 0, .slice none 0 0, .string ⟨#[]⟩, .string ⟨#[]⟩, .int .i64 0, .bool false, .int .i64 0, .string ⟨#[]⟩, .slice none 0 0] 39)).alloc (.cells #[.string ⟨#[42]⟩, .int .i64 14, .string ⟨#[47]⟩, .int .i64 15, .string ⟨#[37]⟩, .int .i64 16] 131)).alloc (.cells #[rp B] 75)).alloc (.cells #[.slice (some ⟨w.heap.size + 1, 0, none⟩) 3 3] 156)) := (((Below.refl _ _).alloc (Nat.le_refl _) _).alloc (by first | (simp; done) | (simp; omega)) _).alloc (by first | (simp; done) | (simp; omega)) _ |>.alloc (by first | (simp; done) | (simp; omega)) _
  have hb0 : Below (w.alloc (.cells #[.int .i64 0, .slice none 0 0, .string ⟨#[]⟩, .string ⟨#[]⟩, .int .i64 0, .bool false, .int .i64 0, .string ⟨#[]⟩, .slice none 0 0] 39)).heap.size (w.alloc (.cells #[.int .i64 0, .slice none 0 0, .string ⟨#[]⟩, .string ⟨#[]⟩, .int .i64 0, .bool false, .int .i64 0, .string ⟨#[]⟩, .slice none 0 0] 39)) ((((w.alloc (.cells #[.int .i64 0, .slice none 0 0, .string ⟨#[]⟩, .string ⟨#[]⟩, .int .i64 0, .bool false, .int .i64 0, .string ⟨#[]⟩, .slice none 0 0] 39)).alloc (.cells #[.string ⟨#[42]⟩, .int .i64 14, .string ⟨#[47]⟩, .int .i64 15, .string ⟨#[37]⟩, .int .i64 16] 131)).alloc (.cells #[rp B] 75)).alloc (.cells #[.slice (some ⟨w.heap.size + 1, 0, none⟩) 3 3] 156)) := ((Below.refl _ _).alloc (Nat.le_refl _) _).alloc (by first | (simp; done) | (simp; omega)) _ |>.alloc (by first | (simp; done) | (simp; omega)) _
  have hS : OpsAt ((((w.alloc (.cells #[.int .i64 0, .slice none 0 0, .string ⟨#[]⟩, .string ⟨#[]⟩, .int .i64 0, .bool false, .int .i64 0, .string ⟨#[]⟩, .slice none 0 0] 39)).alloc (.cells #[.string ⟨#[42]⟩, .int .i64 14, .string ⟨#[47]⟩, .int .i64 15, .string ⟨#[37]⟩, .int .i64 16] 131)).alloc (.cells #[rp B] 75)).alloc (.cells #[.slice (some ⟨w.heap.size + 1, 0, none⟩) 3 3] 156)) B (some ⟨w.heap.size + 1, 0, none⟩) opsM := by
    have h1 := opsM_at (w.alloc (.cells #[.int .i64 0, .slice none 0 0, .string ⟨#[]⟩, .string ⟨#[]⟩, .int .i64 0, .bool false, .int .i64 0, .string ⟨#[]⟩, .slice none 0 0] 39)) B (by simp; omega)
    have h2 : OpsAt ((w.alloc (.cells #[.int .i64 0, .slice none 0 0, .string ⟨#[]⟩, .string ⟨#[]⟩, .int .i64 0, .bool false, .int .i64 0, .string ⟨#[]⟩, .slice none 0 0] 39)).alloc (.cells #[.string ⟨#[42]⟩, .int .i64 14, .string ⟨#[47]⟩, .int .i64 15, .string ⟨#[37]⟩, .int .i64 16] 131)) B (some ⟨w.heap.size + 1, 0, none⟩) opsM := by simpa using h1
    exact (h2.only (only_of_below (below_new _ _))).only (only_of_below (below_new _ _))
  have k2 : World.cell? ((((w.alloc (.cells #[.int .i64 0, .slice none 0 0, .string ⟨#[]⟩, .string ⟨#[]⟩, .int .i64 0, .bool false, .int .i64 0, .string ⟨#[]⟩, .slice none 0 0] 39)).alloc (.cells #[.string ⟨#[42]⟩, .int .i64 14, .string ⟨#[47]⟩, .int .i64 15, .string ⟨#[37]⟩, .int .i64 16] 131)).alloc (.cells #[rp B] 75)).alloc (.cells #[.slice (some ⟨w.heap.size + 1, 0, none⟩) 3 3] 156)) ⟨w.heap.size + 3, 0, none⟩ = some (.slice (some ⟨w.heap.size + 1, 0, none⟩) 3 3) := by
    have := alloc_cell (i := 0) (t := 156) (cs := #[.slice (some ⟨w.heap.size + 1, 0, none⟩) 3 3]) (((w.alloc (.cells #[.int .i64 0, .slice none 0 0, .string ⟨#[]⟩, .string ⟨#[]⟩, .int .i64 0, .bool false, .int .i64 0, .string ⟨#[]⟩, .slice none 0 0] 39)).alloc (.cells #[.string ⟨#[42]⟩, .int .i64 14, .string ⟨#[47]⟩, .int .i64 15, .string ⟨#[37]⟩, .int .i64 16] 131)).alloc (.cells #[rp B] 75)) rfl
    simpa using this
  have k1 : World.cell? ((((w.alloc (.cells #[.int .i64 0, .slice none 0 0, .string ⟨#[]⟩, .string ⟨#[]⟩, .int .i64 0, .bool false, .int .i64 0, .string ⟨#[]⟩, .slice none 0 0] 39)).alloc (.cells #[.string ⟨#[42]⟩, .int .i64 14, .string ⟨#[47]⟩, .int .i64 15, .string ⟨#[37]⟩, .int .i64 16] 131)).alloc (.cells #[rp B] 75)).alloc (.cells #[.slice (some ⟨w.heap.size + 1, 0, none⟩) 3 3] 156)) ⟨w.heap.size + 2, 0, none⟩ = some (rp B) := by
    have := alloc_cell (i := 0) (t := 75) (cs := #[rp B]) ((w.alloc (.cells #[.int .i64 0, .slice none 0 0, .string ⟨#[]⟩, .string ⟨#[]⟩, .int .i64 0, .bool false, .int .i64 0, .string ⟨#[]⟩, .slice none 0 0] 39)).alloc (.cells #[.string ⟨#[42]⟩, .int .i64 14, .string ⟨#[47]⟩, .int .i64 15, .string ⟨#[37]⟩, .int .i64 16] 131)) rfl
    have h3 := cell_keep (.cells #[.slice (some ⟨w.heap.size + 1, 0, none⟩) 3 3] 156) this
    simpa using h3
  have hC := fun b1 b2 (e1 : b1 = w.heap.size + 2) (e2 : b2 = w.heap.size + 3) => level1_any enters141 hp hsh opsM (by decide) opsM_ne (h.below hb4) hl b1 b2 (some ⟨w.heap.size + 1, 0, none⟩) 3 (by omega) (by omega) (by subst e1; exact k1) (by subst e2; exact k2) hS
  have hne := enters74
  have hmf : ∀ (fn : Fn) (first cap : Array Value) (w : World), (Instr.makeFunc fn first cap).run Tryz.prog w = .ok (.func fn first cap) w := fun _ _ _ _ => rfl
  unfold Enters at hne
  clear hS k1 k2 hp h
  cases hX : levelP opsM p d L with
  | bad a y =>
    rw [hX] at hC
    replace hC : Hid _ := hC
    replace hb4 : Hid _ := hb4
    replace hb0 : Hid _ := hb0
    replace hX : Hid _ := hX
    go_enter Tryz.func168, Tryz.ntmps168
    go_wp2_with (first
      | (go_at_call 70; refine Calls.mono (level_any _ _ _ _ _) ?_; rintro e w1 ⟨rfl, rfl⟩)
      | (have hh := hC.out (w.heap.size + 1 + 1) (w.heap.size + 1 + 1 + 1) rfl rfl; (go_at_call 96); (with_reducible refine Calls.mono hh ?_); clear hh; rintro e w2 ⟨ho2, rfl⟩))
    exact end_bad rfl ((only_of_below hb4.out).trans ho2)
  | ok x M =>
    rw [hX] at hC
    replace hC : Hid _ := hC
    replace hb4 : Hid _ := hb4
    replace hb0 : Hid _ := hb0
    replace hX : Hid _ := hX
    go_enter Tryz.func168, Tryz.ntmps168
    go_wp2_with (first
      | (go_at_call 70; refine Calls.mono (level_any _ _ _ _ _) ?_; rintro e w1 ⟨rfl, rfl⟩)
      | (have hh := hC.out (w.heap.size + 1 + 1) (w.heap.size + 1 + 1 + 1) rfl rfl; (go_at_call 96); (with_reducible refine Calls.mono hh ?_); clear hh; rintro e w2 ⟨ho2, _, rfl, ⟨sp, sn, sc, rfl, hx⟩, hr2⟩; have hW := (only_of_below (B := B) hb0.out).trans ho2; have hx2 := ExAt.weak (c := w.heap.size + 1) (by first | (simp; done) | (simp; omega)) x _ hx; clear hx ho2; obtain ⟨yf, yl, yn, y0, y1, y2, y3, y4, y5, y6, y7, y8⟩ := res_cells hW hlt; replace hW : Hid _ := hW; replace hx2 : Hid _ := hx2; replace hr2 : Hid _ := hr2))
    exact ret_ex (.inl rfl) Tryz.results168 rfl rfl hW.out hlt hx2.out hr2.out rfl rfl rfl rfl rfl rfl rfl rfl rfl

theorem opsS_ne : ∀ i, i < opsS.length → (opsS.getD i ([], 0)).2 ≠ 0 := by decide
theorem opsS_at (w : World) (B : Nat) (hB : B < w.heap.size) : OpsAt (w.alloc (.cells #[.string ⟨#[43]⟩, .int .i64 12, .string ⟨#[45]⟩, .int .i64 13] 131)) B (some ⟨w.heap.size, 0, none⟩) opsS := by
  refine .inr ⟨w.heap.size, 0, rfl, hB, fun i hi => ?_⟩
  have hi' : i < 2 := hi
  obtain rfl | rfl : i = 0 ∨ i = 1 := by omega
  all_goals exact ⟨alloc_cell w rfl, alloc_cell w rfl⟩
set_option maxRecDepth 100000 in
set_option maxHeartbeats 1000000 in
theorem sum_any {B E n : Nat} {p : PR} (hp : Reads B E 168 p n) (hsh : Sh p) : Reads B E 154 (levelP opsS p) n := by
  intro w d L hl h
  have hlt := h.lt
  have hb4 : Below w.heap.size w ((((w.alloc (.cells #[.int .i64 0, .slice none 0 0, .string ⟨#[]⟩, .string ⟨#[]⟩, .int .i64 0, .bool false, .int .i64 0, .string ⟨#[]⟩, .slice none 0 0] 39)).alloc (.cells #[.string ⟨#[43]⟩, .int .i64 12, .string ⟨#[45]⟩, .int .i64 13] 131)).alloc (.cells #[rp B] 75)).alloc (.cells #[.slice (some ⟨w.heap.size + 1, 0, none⟩) 2 2] 156)) := (((Below.refl _ _).alloc (Nat.le_refl _) _).alloc (by first | (simp; done) | (simp; omega)) _).alloc (by first | (simp; done) | (simp; omega)) _ |>.alloc (by first | (simp; done) | (simp; omega)) _
  have hb0 : Below (w.alloc (.cells #[.int .i64 0, .slice none 0 0, .string ⟨#[]⟩, .string ⟨#[]⟩, .int .i64 0, .bool false, .int .i64 0, .string ⟨#[]⟩, .slice none 0 0] 39)).heap.size (w.alloc (.cells #[.int .i64 0, .slice none 0 0, .string ⟨#[]⟩, .string ⟨#[]⟩, .int .i64 0, .bool false, .int .i64 0, .string ⟨#[]⟩, .slice none 0 0] 39)) ((((w.alloc (.cells #[.int .i64 0, .slice none 0 0, .string ⟨#[]⟩, .string ⟨#[]⟩, .int .i64 0, .bool false, .int .i64 0, .string ⟨#[]⟩, .slice none 0 0] 39)).alloc (.cells #[.string ⟨#[43]⟩, .int .i64 12, .string ⟨#[45]⟩, .int .i64 13] 131)).alloc (.cells #[rp B] 75)).alloc (.cells #[.slice (some ⟨w.heap.size + 1, 0, none⟩) 2 2] 156)) := ((Below.refl _ _).alloc (Nat.le_refl _) _).alloc (by first | (simp; done) | (simp; omega)) _ |>.alloc (by first | (simp; done) | (simp; omega)) _
  have hS : OpsAt ((((w.alloc (.cells #[.int .i64 0, .slice none 0 0, .string ⟨#[]⟩, .string ⟨#[]⟩, .int .i64 0, .bool false, .int .i64 0, .string ⟨#[]⟩, .slice none 0 0] 39)).alloc (.cells #[.string ⟨#[43]⟩, .int .i64 12, .string ⟨#[45]⟩, .int .i64 13] 131)).alloc (.cells #[rp B] 75)).alloc (.cells #[.slice (some ⟨w.heap.size + 1, 0, none⟩) 2 2] 156)) B (some ⟨w.heap.size + 1, 0, none⟩) opsS := by
    have h1 := opsS_at (w.alloc (.cells #[.int .i64 0, .slice none 0 0, .string ⟨#[]⟩, .string ⟨#[]⟩, .int .i64 0, .bool false, .int .i64 0, .string ⟨#[]⟩, .slice none 0 0] 39)) B (by simp; omega)
    have h2 : OpsAt ((w.alloc (.cells #[.int .i64 0, .slice none 0 0, .string ⟨#[]⟩, .string ⟨#[]⟩, .int .i64 0, .bool false, .int .i64 0, .string ⟨#[]⟩, .slice none 0 0] 39)).alloc (.cells #[.string ⟨#[43]⟩, .int .i64 12, .string ⟨#[45]⟩, .int .i64 13] 131)) B (some ⟨w.heap.size + 1, 0, none⟩) opsS := by simpa using h1
    exact (h2.only (only_of_below (below_new _ _))).only (only_of_below (below_new _ _))
  have k2 : World.cell? ((((w.alloc (.cells #[.int .i64 0, .slice none 0 0, .string ⟨#[]⟩, .string ⟨#[]⟩, .int .i64 0, .bool false, .int .i64 0, .string ⟨#[]⟩, .slice none 0 0] 39)).alloc (.cells #[.string ⟨#[43]⟩, .int .i64 12, .string ⟨#[45]⟩, .int .i64 13] 131)).alloc (.cells #[rp B] 75)).alloc (.cells #[.slice (some ⟨w.heap.size + 1, 0, none⟩) 2 2] 156)) ⟨w.heap.size + 3, 0, none⟩ = some (.slice (some ⟨w.heap.size + 1, 0, none⟩) 2 2) := by
    have := alloc_cell (i := 0) (t := 156) (cs := #[.slice (some ⟨w.heap.size + 1, 0, none⟩) 2 2]) (((w.alloc (.cells #[.int .i64 0, .slice none 0 0, .string ⟨#[]⟩, .string ⟨#[]⟩, .int .i64 0, .bool false, .int .i64 0, .string ⟨#[]⟩, .slice none 0 0] 39)).alloc (.cells #[.string ⟨#[43]⟩, .int .i64 12, .string ⟨#[45]⟩, .int .i64 13] 131)).alloc (.cells #[rp B] 75)) rfl
    simpa using this
  have k1 : World.cell? ((((w.alloc (.cells #[.int .i64 0, .slice none 0 0, .string ⟨#[]⟩, .string ⟨#[]⟩, .int .i64 0, .bool false, .int .i64 0, .string ⟨#[]⟩, .slice none 0 0] 39)).alloc (.cells #[.string ⟨#[43]⟩, .int .i64 12, .string ⟨#[45]⟩, .int .i64 13] 131)).alloc (.cells #[rp B] 75)).alloc (.cells #[.slice (some ⟨w.heap.size + 1, 0, none⟩) 2 2] 156)) ⟨w.heap.size + 2, 0, none⟩ = some (rp B) := by
    have := alloc_cell (i := 0) (t := 75) (cs := #[rp B]) ((w.alloc (.cells #[.int .i64 0, .slice none 0 0, .string ⟨#[]⟩, .string ⟨#[]⟩, .int .i64 0, .bool false, .int .i64 0, .string ⟨#[]⟩, .slice none 0 0] 39)).alloc (.cells #[.string ⟨#[43]⟩, .int .i64 12, .string ⟨#[45]⟩, .int .i64 13] 131)) rfl
    have h3 := cell_keep (.cells #[.slice (some ⟨w.heap.size + 1, 0, none⟩) 2 2] 156) this
    simpa using h3
  have hC := fun b1 b2 (e1 : b1 = w.heap.size + 2) (e2 : b2 = w.heap.size + 3) => level1_any enters131 hp hsh opsS (by decide) opsS_ne (h.below hb4) hl b1 b2 (some ⟨w.heap.size + 1, 0, none⟩) 2 (by omega) (by omega) (by subst e1; exact k1) (by subst e2; exact k2) hS
  have hne := enters74
  have hmf : ∀ (fn : Fn) (first cap : Array Value) (w : World), (Instr.makeFunc fn first cap).run Tryz.prog w = .ok (.func fn first cap) w := fun _ _ _ _ => rfl
  unfold Enters at hne
  clear hS k1 k2 hp h
  cases hX : levelP opsS p d L with
  | bad a y =>
    rw [hX] at hC
    replace hC : Hid _ := hC
    replace hb4 : Hid _ := hb4
    replace hb0 : Hid _ := hb0
    replace hX : Hid _ := hX
    go_enter Tryz.func154, Tryz.ntmps154
    go_wp2_with (first
      | (go_at_call 70; refine Calls.mono (level_any _ _ _ _ _) ?_; rintro e w1 ⟨rfl, rfl⟩)
      | (have hh := hC.out (w.heap.size + 1 + 1) (w.heap.size + 1 + 1 + 1) rfl rfl; (go_at_call 96); (with_reducible refine Calls.mono hh ?_); clear hh; rintro e w2 ⟨ho2, rfl⟩))
    exact end_bad rfl ((only_of_below hb4.out).trans ho2)
  | ok x M =>
    rw [hX] at hC
    replace hC : Hid _ := hC
    replace hb4 : Hid _ := hb4
    replace hb0 : Hid _ := hb0
    replace hX : Hid _ := hX
    go_enter Tryz.func154, Tryz.ntmps154
    go_wp2_with (first
      | (go_at_call 70; refine Calls.mono (level_any _ _ _ _ _) ?_; rintro e w1 ⟨rfl, rfl⟩)
      | (have hh := hC.out (w.heap.size + 1 + 1) (w.heap.size + 1 + 1 + 1) rfl rfl; (go_at_call 96); (with_reducible refine Calls.mono hh ?_); clear hh; rintro e w2 ⟨ho2, _, rfl, ⟨sp, sn, sc, rfl, hx⟩, hr2⟩; have hW := (only_of_below (B := B) hb0.out).trans ho2; have hx2 := ExAt.weak (c := w.heap.size + 1) (by first | (simp; done) | (simp; omega)) x _ hx; clear hx ho2; obtain ⟨yf, yl, yn, y0, y1, y2, y3, y4, y5, y6, y7, y8⟩ := res_cells hW hlt; replace hW : Hid _ := hW; replace hx2 : Hid _ := hx2; replace hr2 : Hid _ := hr2))
    exact ret_ex (.inl rfl) Tryz.results154 rfl rfl hW.out hlt hx2.out hr2.out rfl rfl rfl rfl rfl rfl rfl rfl rfl

theorem opsA_ne : ∀ i, i < opsA.length → (opsA.getD i ([], 0)).2 ≠ 0 := by decide
theorem opsA_at (w : World) (B : Nat) (hB : B < w.heap.size) : OpsAt (w.alloc (.cells #[.string ⟨#[65, 78, 68]⟩, .int .i64 5] 131)) B (some ⟨w.heap.size, 0, none⟩) opsA := by
  refine .inr ⟨w.heap.size, 0, rfl, hB, fun i hi => ?_⟩
  have hi' : i < 1 := hi
  obtain rfl : i = 0 := by omega
  all_goals exact ⟨alloc_cell w rfl, alloc_cell w rfl⟩
set_option maxRecDepth 100000 in
set_option maxHeartbeats 1000000 in
theorem both_any {B E n : Nat} {p : PR} (hp : Reads B E 99 p n) (hsh : Sh p) : Reads B E 71 (levelP opsA p) n := by
  intro w d L hl h
  have hlt := h.lt
  have hb4 : Below w.heap.size w ((((w.alloc (.cells #[.int .i64 0, .slice none 0 0, .string ⟨#[]⟩, .string ⟨#[]⟩, .int .i64 0, .bool false, .int .i64 0, .string ⟨#[]⟩, .slice none 0 0] 39)).alloc (.cells #[.string ⟨#[65, 78, 68]⟩, .int .i64 5] 131)).alloc (.cells #[rp B] 75)).alloc (.cells #[.slice (some ⟨w.heap.size + 1, 0, none⟩) 1 1] 156)) := (((Below.refl _ _).alloc (Nat.le_refl _) _).alloc (by first | (simp; done) | (simp; omega)) _).alloc (by first | (simp; done) | (simp; omega)) _ |>.alloc (by first | (simp; done) | (simp; omega)) _
  have hb0 : Below (w.alloc (.cells #[.int .i64 0, .slice none 0 0, .string ⟨#[]⟩, .string ⟨#[]⟩, .int .i64 0, .bool false, .int .i64 0, .string ⟨#[]⟩, .slice none 0 0] 39)).heap.size (w.alloc (.cells #[.int .i64 0, .slice none 0 0, .string ⟨#[]⟩, .string ⟨#[]⟩, .int .i64 0, .bool false, .int .i64 0, .string ⟨#[]⟩, .slice none 0 0] 39)) ((((w.alloc (.cells #[.int .i64 0, .slice none 0 0, .string ⟨#[]⟩, .string ⟨#[]⟩, .int .i64 0, .bool false, .int .i64 0, .string ⟨#[]⟩, .slice none 0 0] 39)).alloc (.cells #[.string ⟨#[65, 78, 68]⟩, .int .i64 5] 131)).alloc (.cells #[rp B] 75)).alloc (.cells #[.slice (some ⟨w.heap.size + 1, 0, none⟩) 1 1] 156)) := ((Below.refl _ _).alloc (Nat.le_refl _) _).alloc (by first | (simp; done) | (simp; omega)) _ |>.alloc (by first | (simp; done) | (simp; omega)) _
  have hS : OpsAt ((((w.alloc (.cells #[.int .i64 0, .slice none 0 0, .string ⟨#[]⟩, .string ⟨#[]⟩, .int .i64 0, .bool false, .int .i64 0, .string ⟨#[]⟩, .slice none 0 0] 39)).alloc (.cells #[.string ⟨#[65, 78, 68]⟩, .int .i64 5] 131)).alloc (.cells #[rp B] 75)).alloc (.cells #[.slice (some ⟨w.heap.size + 1, 0, none⟩) 1 1] 156)) B (some ⟨w.heap.size + 1, 0, none⟩) opsA := by
    have h1 := opsA_at (w.alloc (.cells #[.int .i64 0, .slice none 0 0, .string ⟨#[]⟩, .string ⟨#[]⟩, .int .i64 0, .bool false, .int .i64 0, .string ⟨#[]⟩, .slice none 0 0] 39)) B (by simp; omega)
    have h2 : OpsAt ((w.alloc (.cells #[.int .i64 0, .slice none 0 0, .string ⟨#[]⟩, .string ⟨#[]⟩, .int .i64 0, .bool false, .int .i64 0, .string ⟨#[]⟩, .slice none 0 0] 39)).alloc (.cells #[.string ⟨#[65, 78, 68]⟩, .int .i64 5] 131)) B (some ⟨w.heap.size + 1, 0, none⟩) opsA := by simpa using h1
    exact (h2.only (only_of_below (below_new _ _))).only (only_of_below (below_new _ _))
  have k2 : World.cell? ((((w.alloc (.cells #[.int .i64 0, .slice none 0 0, .string ⟨#[]⟩, .string ⟨#[]⟩, .int .i64 0, .bool false, .int .i64 0, .string ⟨#[]⟩, .slice none 0 0] 39)).alloc (.cells #[.string ⟨#[65, 78, 68]⟩, .int .i64 5] 131)).alloc (.cells #[rp B] 75)).alloc (.cells #[.slice (some ⟨w.heap.size + 1, 0, none⟩) 1 1] 156)) ⟨w.heap.size + 3, 0, none⟩ = some (.slice (some ⟨w.heap.size + 1, 0, none⟩) 1 1) := by
    have := alloc_cell (i := 0) (t := 156) (cs := #[.slice (some ⟨w.heap.size + 1, 0, none⟩) 1 1]) (((w.alloc (.cells #[.int .i64 0, .slice none 0 0, .string ⟨#[]⟩, .string ⟨#[]⟩, .int .i64 0, .bool false, .int .i64 0, .string ⟨#[]⟩, .slice none 0 0] 39)).alloc (.cells #[.string ⟨#[65, 78, 68]⟩, .int .i64 5] 131)).alloc (.cells #[rp B] 75)) rfl
    simpa using this
  have k1 : World.cell? ((((w.alloc (.cells #[.int .i64 0, .slice none 0 0, .string ⟨#[]⟩, .string ⟨#[]⟩, .int .i64 0, .bool false, .int .i64 0, .string ⟨#[]⟩, .slice none 0 0] 39)).alloc (.cells #[.string ⟨#[65, 78, 68]⟩, .int .i64 5] 131)).alloc (.cells #[rp B] 75)).alloc (.cells #[.slice (some ⟨w.heap.size + 1, 0, none⟩) 1 1] 156)) ⟨w.heap.size + 2, 0, none⟩ = some (rp B) := by
    have := alloc_cell (i := 0) (t := 75) (cs := #[rp B]) ((w.alloc (.cells #[.int .i64 0, .slice none 0 0, .string ⟨#[]⟩, .string ⟨#[]⟩, .int .i64 0, .bool false, .int .i64 0, .string ⟨#[]⟩, .slice none 0 0] 39)).alloc (.cells #[.string ⟨#[65, 78, 68]⟩, .int .i64 5] 131)) rfl
    have h3 := cell_keep (.cells #[.slice (some ⟨w.heap.size + 1, 0, none⟩) 1 1] 156) this
    simpa using h3
  have hC := fun b1 b2 (e1 : b1 = w.heap.size + 2) (e2 : b2 = w.heap.size + 3) => level1_any enters77 hp hsh opsA (by decide) opsA_ne (h.below hb4) hl b1 b2 (some ⟨w.heap.size + 1, 0, none⟩) 1 (by omega) (by omega) (by subst e1; exact k1) (by subst e2; exact k2) hS
  have hne := enters74
  have hmf : ∀ (fn : Fn) (first cap : Array Value) (w : World), (Instr.makeFunc fn first cap).run Tryz.prog w = .ok (.func fn first cap) w := fun _ _ _ _ => rfl
  unfold Enters at hne
  clear hS k1 k2 hp h
  cases hX : levelP opsA p d L with
  | bad a y =>
    rw [hX] at hC
    replace hC : Hid _ := hC
    replace hb4 : Hid _ := hb4
    replace hb0 : Hid _ := hb0
    replace hX : Hid _ := hX
    go_enter Tryz.func71, Tryz.ntmps71
    go_wp2_with (first
      | (go_at_call 70; refine Calls.mono (level_any _ _ _ _ _) ?_; rintro e w1 ⟨rfl, rfl⟩)
      | (have hh := hC.out (w.heap.size + 1 + 1) (w.heap.size + 1 + 1 + 1) rfl rfl; (go_at_call 96); (with_reducible refine Calls.mono hh ?_); clear hh; rintro e w2 ⟨ho2, rfl⟩))
    exact end_bad rfl ((only_of_below hb4.out).trans ho2)
  | ok x M =>
    rw [hX] at hC
    replace hC : Hid _ := hC
    replace hb4 : Hid _ := hb4
    replace hb0 : Hid _ := hb0
    replace hX : Hid _ := hX
    go_enter Tryz.func71, Tryz.ntmps71
    go_wp2_with (first
      | (go_at_call 70; refine Calls.mono (level_any _ _ _ _ _) ?_; rintro e w1 ⟨rfl, rfl⟩)
      | (have hh := hC.out (w.heap.size + 1 + 1) (w.heap.size + 1 + 1 + 1) rfl rfl; (go_at_call 96); (with_reducible refine Calls.mono hh ?_); clear hh; rintro e w2 ⟨ho2, _, rfl, ⟨sp, sn, sc, rfl, hx⟩, hr2⟩; have hW := (only_of_below (B := B) hb0.out).trans ho2; have hx2 := ExAt.weak (c := w.heap.size + 1) (by first | (simp; done) | (simp; omega)) x _ hx; clear hx ho2; obtain ⟨yf, yl, yn, y0, y1, y2, y3, y4, y5, y6, y7, y8⟩ := res_cells hW hlt; replace hW : Hid _ := hW; replace hx2 : Hid _ := hx2; replace hr2 : Hid _ := hr2))
    exact ret_ex (.inl rfl) Tryz.results71 rfl rfl hW.out hlt hx2.out hr2.out rfl rfl rfl rfl rfl rfl rfl rfl rfl

theorem opsO_ne : ∀ i, i < opsO.length → (opsO.getD i ([], 0)).2 ≠ 0 := by decide
theorem opsO_at (w : World) (B : Nat) (hB : B < w.heap.size) : OpsAt (w.alloc (.cells #[.string ⟨#[79, 82]⟩, .int .i64 4] 131)) B (some ⟨w.heap.size, 0, none⟩) opsO := by
  refine .inr ⟨w.heap.size, 0, rfl, hB, fun i hi => ?_⟩
  have hi' : i < 1 := hi
  obtain rfl : i = 0 := by omega
  all_goals exact ⟨alloc_cell w rfl, alloc_cell w rfl⟩
set_option maxRecDepth 100000 in
set_option maxHeartbeats 1000000 in
theorem expr_any {B E n : Nat} {p : PR} (hp : Reads B E 71 p n) (hsh : Sh p) : Reads B E 31 (levelP opsO p) n := by
  intro w d L hl h
  have hlt := h.lt
  have hb4 : Below w.heap.size w ((((w.alloc (.cells #[.int .i64 0, .slice none 0 0, .string ⟨#[]⟩, .string ⟨#[]⟩, .int .i64 0, .bool false, .int .i64 0, .string ⟨#[]⟩, .slice none 0 0] 39)).alloc (.cells #[.string ⟨#[79, 82]⟩, .int .i64 4] 131)).alloc (.cells #[rp B] 75)).alloc (.cells #[.slice (some ⟨w.heap.size + 1, 0, none⟩) 1 1] 156)) := (((Below.refl _ _).alloc (Nat.le_refl _) _).alloc (by first | (simp; done) | (simp; omega)) _).alloc (by first | (simp; done) | (simp; omega)) _ |>.alloc (by first | (simp; done) | (simp; omega)) _
  have hb0 : Below (w.alloc (.cells #[.int .i64 0, .slice none 0 0, .string ⟨#[]⟩, .string ⟨#[]⟩, .int .i64 0, .bool false, .int .i64 0, .string ⟨#[]⟩, .slice none 0 0] 39)).heap.size (w.alloc (.cells #[.int .i64 0, .slice none 0 0, .string ⟨#[]⟩, .string ⟨#[]⟩, .int .i64 0, .bool false, .int .i64 0, .string ⟨#[]⟩, .slice none 0 0] 39)) ((((w.alloc (.cells #[.int .i64 0, .slice none 0 0, .string ⟨#[]⟩, .string ⟨#[]⟩, .int .i64 0, .bool false, .int .i64 0, .string ⟨#[]⟩, .slice none 0 0] 39)).alloc (.cells #[.string ⟨#[79, 82]⟩, .int .i64 4] 131)).alloc (.cells #[rp B] 75)).alloc (.cells #[.slice (some ⟨w.heap.size + 1, 0, none⟩) 1 1] 156)) := ((Below.refl _ _).alloc (Nat.le_refl _) _).alloc (by first | (simp; done) | (simp; omega)) _ |>.alloc (by first | (simp; done) | (simp; omega)) _
  have hS : OpsAt ((((w.alloc (.cells #[.int .i64 0, .slice none 0 0, .string ⟨#[]⟩, .string ⟨#[]⟩, .int .i64 0, .bool false, .int .i64 0, .string ⟨#[]⟩, .slice none 0 0] 39)).alloc (.cells #[.string ⟨#[79, 82]⟩, .int .i64 4] 131)).alloc (.cells #[rp B] 75)).alloc (.cells #[.slice (some ⟨w.heap.size + 1, 0, none⟩) 1 1] 156)) B (some ⟨w.heap.size + 1, 0, none⟩) opsO := by
    have h1 := opsO_at (w.alloc (.cells #[.int .i64 0, .slice none 0 0, .string ⟨#[]⟩, .string ⟨#[]⟩, .int .i64 0, .bool false, .int .i64 0, .string ⟨#[]⟩, .slice none 0 0] 39)) B (by simp; omega)
    have h2 : OpsAt ((w.alloc (.cells #[.int .i64 0, .slice none 0 0, .string ⟨#[]⟩, .string ⟨#[]⟩, .int .i64 0, .bool false, .int .i64 0, .string ⟨#[]⟩, .slice none 0 0] 39)).alloc (.cells #[.string ⟨#[79, 82]⟩, .int .i64 4] 131)) B (some ⟨w.heap.size + 1, 0, none⟩) opsO := by simpa using h1
    exact (h2.only (only_of_below (below_new _ _))).only (only_of_below (below_new _ _))
  have k2 : World.cell? ((((w.alloc (.cells #[.int .i64 0, .slice none 0 0, .string ⟨#[]⟩, .string ⟨#[]⟩, .int .i64 0, .bool false, .int .i64 0, .string ⟨#[]⟩, .slice none 0 0] 39)).alloc (.cells #[.string ⟨#[79, 82]⟩, .int .i64 4] 131)).alloc (.cells #[rp B] 75)).alloc (.cells #[.slice (some ⟨w.heap.size + 1, 0, none⟩) 1 1] 156)) ⟨w.heap.size + 3, 0, none⟩ = some (.slice (some ⟨w.heap.size + 1, 0, none⟩) 1 1) := by
    have := alloc_cell (i := 0) (t := 156) (cs := #[.slice (some ⟨w.heap.size + 1, 0, none⟩) 1 1]) (((w.alloc (.cells #[.int .i64 0, .slice none 0 0, .string ⟨#[]⟩, .string ⟨#[]⟩, .int .i64 0, .bool false, .int .i64 0, .string ⟨#[]⟩, .slice none 0 0] 39)).alloc (.cells #[.string ⟨#[79, 82]⟩, .int .i64 4] 131)).alloc (.cells #[rp B] 75)) rfl
    simpa using this
  have k1 : World.cell? ((((w.alloc (.cells #[.int .i64 0, .slice none 0 0, .string ⟨#[]⟩, .string ⟨#[]⟩, .int .i64 0, .bool false, .int .i64 0, .string ⟨#[]⟩, .slice none 0 0] 39)).alloc (.cells #[.string ⟨#[79, 82]⟩, .int .i64 4] 131)).alloc (.cells #[rp B] 75)).alloc (.cells #[.slice (some ⟨w.heap.size + 1, 0, none⟩) 1 1] 156)) ⟨w.heap.size + 2, 0, none⟩ = some (rp B) := by
    have := alloc_cell (i := 0) (t := 75) (cs := #[rp B]) ((w.alloc (.cells #[.int .i64 0, .slice none 0 0, .string ⟨#[]⟩, .string ⟨#[]⟩, .int .i64 0, .bool false, .int .i64 0, .string ⟨#[]⟩, .slice none 0 0] 39)).alloc (.cells #[.string ⟨#[79, 82]⟩, .int .i64 4] 131)) rfl
    have h3 := cell_keep (.cells #[.slice (some ⟨w.heap.size + 1, 0, none⟩) 1 1] 156) this
    simpa using h3
  have hC := fun b1 b2 (e1 : b1 = w.heap.size + 2) (e2 : b2 = w.heap.size + 3) => level1_any enters53 hp hsh opsO (by decide) opsO_ne (h.below hb4) hl b1 b2 (some ⟨w.heap.size + 1, 0, none⟩) 1 (by omega) (by omega) (by subst e1; exact k1) (by subst e2; exact k2) hS
  have hne := enters74
  have hmf : ∀ (fn : Fn) (first cap : Array Value) (w : World), (Instr.makeFunc fn first cap).run Tryz.prog w = .ok (.func fn first cap) w := fun _ _ _ _ => rfl
  unfold Enters at hne
  clear hS k1 k2 hp h
  cases hX : levelP opsO p d L with
  | bad a y =>
    rw [hX] at hC
    replace hC : Hid _ := hC
    replace hb4 : Hid _ := hb4
    replace hb0 : Hid _ := hb0
    replace hX : Hid _ := hX
    go_enter Tryz.func31, Tryz.ntmps31
    go_wp2_with (first
      | (go_at_call 70; refine Calls.mono (level_any _ _ _ _ _) ?_; rintro e w1 ⟨rfl, rfl⟩)
      | (have hh := hC.out (w.heap.size + 1 + 1) (w.heap.size + 1 + 1 + 1) rfl rfl; (go_at_call 96); (with_reducible refine Calls.mono hh ?_); clear hh; rintro e w2 ⟨ho2, rfl⟩))
    exact end_bad rfl ((only_of_below hb4.out).trans ho2)
  | ok x M =>
    rw [hX] at hC
    replace hC : Hid _ := hC
    replace hb4 : Hid _ := hb4
    replace hb0 : Hid _ := hb0
    replace hX : Hid _ := hX
    go_enter Tryz.func31, Tryz.ntmps31
    go_wp2_with (first
      | (go_at_call 70; refine Calls.mono (level_any _ _ _ _ _) ?_; rintro e w1 ⟨rfl, rfl⟩)
      | (have hh := hC.out (w.heap.size + 1 + 1) (w.heap.size + 1 + 1 + 1) rfl rfl; (go_at_call 96); (with_reducible refine Calls.mono hh ?_); clear hh; rintro e w2 ⟨ho2, _, rfl, ⟨sp, sn, sc, rfl, hx⟩, hr2⟩; have hW := (only_of_below (B := B) hb0.out).trans ho2; have hx2 := ExAt.weak (c := w.heap.size + 1) (by first | (simp; done) | (simp; omega)) x _ hx; clear hx ho2; obtain ⟨yf, yl, yn, y0, y1, y2, y3, y4, y5, y6, y7, y8⟩ := res_cells hW hlt; replace hW : Hid _ := hW; replace hx2 : Hid _ := hx2; replace hr2 : Hid _ := hr2))
    exact ret_ex (.inl rfl) Tryz.results31 rfl rfl hW.out hlt hx2.out hr2.out rfl rfl rfl rfl rfl rfl rfl rfl rfl
end Go.Proofs.YtkcnpbckmdgfnaaGreatDoor
