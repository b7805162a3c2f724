/-
  What has commas between.
-/
import Derived.Test.YtefenbonjepjgaaGreatDoorPtt
namespace Go.Proofs.YtefenbonjepjgaaGreatDoor
open Go.ChangeShapes Go.WideShapes Go.ChangeAt Go.RowKit
set_option linter.unusedSimpArgs false
set_option linter.unusedVariables false

set_option maxRecDepth 100000 in
set_option maxHeartbeats 2000000 in
theorem listedKy_any {B E n : Nat} {p : List Tk → Res Ky} (hK : Enters 40) (hp : ∀ W L, L.length < n → Rd W B E 0 L → Calls Tryz.prog 40 #[rp B] W (Ans W B E 0 (p L) ((fun _ => IsKy) W.heap.size))) (hsh : ∀ L, ShR L (p L))
    {w : World} {L : List Tk} (hl : L.length < n) (h : Rd w B E 0 L) :
    Calls Tryz.prog 39 #[rp B, .func (.func 40) #[rp B] #[]] w (Ans w B E 0 (listP p L) (IsLs EKy 82 w.heap.size)) := by
  have hlt := h.lt
  have hfew := h.few
  have hO := fun (_ : Unit) => hp w L hl h
  obtain ⟨i0, hi0, hz0, hz1, hz2⟩ := info_parts info82
  replace hi0 : Hid _ := hi0
  replace hz0 : Hid _ := hz0
  replace hz1 : Hid _ := hz1
  replace hz2 : Hid _ := hz2
  unfold Enters at hK
  clear h
  generalize hF : listP p L = F
  unfold listP at hF
  cases hX : p L with
  | bad a y =>
    rw [hX] at hF hO
    have hF2 : Res.bad a y = F := hF
    subst hF2
    clear hF hp
    replace hO : Hid _ := hO
    replace hX : Hid _ := hX
    go_enter Tryz.func39, Tryz.ntmps39
    go_wp2_with (have hh := hO.out (); go_at_call 40; (with_reducible refine Calls.mono hh ?_); clear hh; rintro e w1 ⟨ho1, rfl⟩)
    exact end_bad rfl ho1
  | ok x M =>
    rw [hX] at hF hO
    have hF2 : listG p M.length [x] M = F := hF
    have hML := hsh L x M hX
    clear hF
    replace hO : Hid _ := hO
    replace hX : Hid _ := hX
    replace hF2 : Hid _ := hF2
    go_enter Tryz.func39, Tryz.ntmps39
    go_wp2_with (have hh := hO.out (); go_at_call 40; (with_reducible refine Calls.mono hh ?_); clear hh; rintro e w1 ⟨ho1, _, rfl, rfl, hr1⟩)
    have hown : (w1.alloc (.cells #[.string (txt x.n), .bool x.desc] 82)).ownsRow w.heap.size 82 2 (.slice (some ⟨w1.heap.size, 0, none⟩) [x].length 1) [x].length [[.string (txt x.n), .bool x.desc]].flatten := World.ownsRow_lit w1 #[.string (txt x.n), .bool x.desc] 1 ho1.size (by decide) rfl
    have hat : EKy.at' x [.string (txt x.n), .bool x.desc] (w.heap.size ≤ ·) w1 := rfl
    have hls : Ls EKy (fun g => w.heap.size ≤ g ∧ (Value.slice (some ⟨w1.heap.size, 0, none⟩) [x].length 1).ownBlock ≠ some g) (w1.alloc (.cells #[.string (txt x.n), .bool x.desc] 82)) [x] [[.string (txt x.n), .bool x.desc]] :=
      ⟨EKy.weak _ _ (fun g => w.heap.size ≤ g ∧ g < w1.heap.size) _ _ (fun g hg => ⟨hg.1, fun e => by simp [Value.ownBlock] at e; omega⟩) (EKy.keep _ _ _ _ _ (Below.same (below_new w1 _)) (EKy.lt _ _ _ _ hat)), trivial⟩
    have hr2 := hr1.below (below_new w1 (.cells #[.string (txt x.n), .bool x.desc] 82))
    have ho2 := ho1.trans (only_of_below (B := B) (below_new w1 (.cells #[.string (txt x.n), .bool x.desc] 82)))
    clear hr1 ho1 hat hO hX
    replace hown : Hid _ := hown
    replace hls : Hid _ := hls
    replace ho2 : Hid _ := ho2
    replace hr2 : Hid _ := hr2
    go_loopg [5] (M.length) (fun k v5 wr => ∃ (l : List Ky) (C : List (List Value)) (M : List Tk) (q : Option Addr) (c : Nat), v5 = .slice q l.length c ∧ wr.ownsRow w.heap.size 82 2 (.slice q l.length c) l.length C.flatten ∧
      Ls EKy (fun g => w.heap.size ≤ g ∧ (Value.slice q l.length c).ownBlock ≠ some g) wr l C ∧ Only (· = B) w wr ∧ Rd wr B E 0 M ∧ M.length ≤ k ∧ M.length ≤ L.length ∧ l.length + M.length ≤ L.length + 1 ∧ listG p k l M = F)
    case atStart => exact ⟨[x], [[.string (txt x.n), .bool x.desc]], M, _, _, rfl, hown.out, hls.out, ho2.out, hr2.out, Nat.le_refl _, hML, by simp; omega, hF2.out⟩
    case round =>
      clear hown hls ho2 hr2 hML hF2
      obtain ⟨l, C, M, q, c, rfl, hown, hls, ho, hr, hMk, hML, hcnt, hF⟩ := hrel
      have hP := fun (_ : Unit) => pass_any hr [44]
      have hPk := fun W (hb : Only (· = B) wr W) => own_only hown hb hlt
      cases hw : isW [44] M
      · rw [hw, passed_no hw] at hP
        rw [listG_stop _ hw] at hF
        subst hF
        clear hr hp
        replace hP : Hid _ := hP
        replace hw : Hid _ := hw
        replace hown : Hid _ := hown
        replace hls : Hid _ := hls
        replace ho : Hid _ := ho
        clear hPk
        go_wp2_with (have hh := hP.out (); go_at_call 35; (with_reducible refine Calls.mono hh ?_); clear hh; rintro e w2 ⟨rfl, ho2, hr2⟩)
        go_returns
        exact ⟨ho.out.trans ho2, _, rfl, ⟨_, _, C, rfl, own_only hown.out ho2 hlt, Ls.weak (fun g hg => hg.1) (Ls.keep (Only.same ho2 (fun g hg e => by subst e; exact absurd hg.1 (by omega))) hls.out)⟩, hr2⟩
      · rw [hw, passed_yes hw] at hP
        obtain ⟨t, Mt, hMe⟩ := isW_cons hw
        obtain ⟨k', hk'⟩ : ∃ k', gk = k' + 1 := ⟨gk - 1, by rw [hMe] at hMk; simp at hMk; omega⟩
        have htl : M.tail.length + 1 = M.length := by rw [hMe]; simp
        rw [hk'] at hF
        have hF2 : ((p M.tail).then fun x L => listG p k' (l ++ [x]) L) = F := by rw [← hF, listG, hw]; rfl
        have hO := fun W (hr : Rd W B E 0 M.tail) => hp W M.tail (by omega) hr
        clear hF hr hMe
        replace hP : Hid _ := hP
        replace hw : Hid _ := hw
        replace hown : Hid _ := hown
        replace hls : Hid _ := hls
        replace ho : Hid _ := ho
        replace hPk : Hid _ := hPk
        cases hY : p M.tail with
        | bad a y =>
          rw [hY] at hO hF2
          have hF3 : Res.bad a y = F := hF2
          subst hF3
          clear hF2
          replace hO : Hid _ := hO
          replace hY : Hid _ := hY
          go_wp2_with (first
            | (have hh := hP.out (); go_at_call 35; (with_reducible refine Calls.mono hh ?_); clear hh; rintro e w2 ⟨rfl, ho2, hr2⟩)
            | (have hh := hO.out _ hr2; go_at_call 40; (with_reducible refine Calls.mono hh ?_); clear hh; rintro e w3 ⟨ho3, rfl⟩))
          exact end_bad rfl (ho.out.trans (ho2.trans ho3))
        | ok y M2 =>
          rw [hY] at hO hF2
          have hF3 : listG p k' (l ++ [y]) M2 = F := hF2
          have hM2 := hsh M.tail y M2 hY
          clear hF2
          replace hO : Hid _ := hO
          replace hY : Hid _ := hY
          replace hF3 : Hid _ := hF3
          go_wp2_with (first
            | (at_builtin; refine wpList_append_own_at _ rfl _ _ 26 rfl w.heap.size 82 i0 _ 2 24 Tryz.underlying26 hi0.out hz0.out hz1.out hz2.out rfl (by decide) _ _ _ rfl (own_below (hPk.out _ (ho2.trans ho3)) (below_new _ _)) ⟨w3.heap.size, 0, none⟩ 1 1 [.string (txt y.n), .bool y.desc] rfl rfl (news_one w3 _ [.string (txt y.n), .bool y.desc] 82 rfl) (EKy.one _ _ _ _ (show EKy.at' y [.string (txt y.n), .bool y.desc] (w2.heap.size ≤ ·) w3 from rfl)) (by unfold maxLen; omega) (by omega) (by have := ho.out.size; have := (ho2.trans ho3).size; simp; omega) ?_; intro v5 w5 ho5 hg5 hnil5 hloc5)
            | (have hh := hP.out (); go_at_call 35; (with_reducible refine Calls.mono hh ?_); clear hh; rintro e w2 ⟨rfl, ho2, hr2⟩)
            | (have hh := hO.out _ hr2; go_at_call 40; (with_reducible refine Calls.mono hh ?_); clear hh; rintro e w3 ⟨ho3, _, rfl, rfl, hr3⟩))
          have hat : EKy.at' y [.string (txt y.n), .bool y.desc] (w2.heap.size ≤ ·) w3 := rfl
          have hb2 := fun g (hg : (Value.slice q l.length c).ownBlock = some g) => own_blk hown.out hg
          have hy3 : EKy.at' y [.string (txt y.n), .bool y.desc] (fun g => w.heap.size ≤ g ∧ (Value.slice q l.length c).ownBlock ≠ some g) w3 := EKy.weak _ _ _ _ _ (fun g hg => by
            have hg' : w2.heap.size ≤ g := hg
            have h1 := ho.out.size
            have h2 := ho2.size
            exact ⟨by omega, fun e => by have := (hb2 g e).2; omega⟩) hat
          have hl3 := Ls.keep (Only.same (ho2.trans ho3) (fun g hg e => by subst e; exact absurd hg.1 (by omega))) hls.out
          have hls5 := Ls.grow (W := w3.alloc (.cells #[.string (txt y.n), .bool y.desc] 82)) hl3 hy3 (below_new w3 _) hg5 (hloc5.imp id (fun e => e))
          obtain ⟨q5, c5, rfl⟩ := own_val ho5
          have hS5 := grown_only hg5
          have hblk : ∀ k, (Value.slice q l.length c).ownBlock = some k → w.heap.size ≤ k := fun k hk => (hb2 k hk).1
          have hr5 := (hr3.below (below_new w3 (.cells #[.string (txt y.n), .bool y.desc] 82))).turnS hS5 (fun k hk => by have := hblk k hk; omega)
          have hW5 := only_putS ((ho.out.trans (ho2.trans ho3)).trans (only_of_below (below_new w3 (.cells #[.string (txt y.n), .bool y.desc] 82)))) hblk hS5
          have hown5 : w5.ownsRow w.heap.size 82 2 (.slice q5 (l ++ [y]).length c5) (l ++ [y]).length (C ++ [([.string (txt y.n), .bool y.desc] : List Value)]).flatten := by
            have e : (C ++ [([.string (txt y.n), .bool y.desc] : List Value)]).flatten = C.flatten ++ ([.string (txt y.n), .bool y.desc] : List Value) := by simp
            rw [e, List.length_append]
            exact ho5
          have hlen : (l ++ [y]).length = l.length + 1 := by simp
          have hls6 : Ls EKy (fun g => w.heap.size ≤ g ∧ (Value.slice q5 (l ++ [y]).length c5).ownBlock ≠ some g) w5 (l ++ [y]) (C ++ [[.string (txt y.n), .bool y.desc]]) := by
            rw [hlen]
            exact hls5
          clear hat hy3 hl3 hls5 hS5 hb2 hblk ho5 hg5 hnil5 hloc5
          replace hr5 : Hid _ := hr5
          replace hW5 : Hid _ := hW5
          replace hown5 : Hid _ := hown5
          replace hls6 : Hid _ := hls6
          replace hlen : Hid _ := hlen
          go_wp2_with fail
          go_roundg k'
          case measure => omega
          case rel => exact ⟨l ++ [y], C ++ [([.string (txt y.n), .bool y.desc] : List Value)], M2, q5, c5, by rw [hlen.out], hown5.out, hls6.out, hW5.out, hr5.out, by omega, by omega, by rw [hlen.out]; omega, hF3.out⟩

set_option maxRecDepth 100000 in
set_option maxHeartbeats 2000000 in
theorem listedIt_any {B E n : Nat} {p : List Tk → Res Itm} (hK : Enters 37) (hp : ∀ W L, L.length < n → Rd W B E 0 L → Calls Tryz.prog 37 #[rp B] W (Ans W B E 0 (p L) (IsIt W.heap.size))) (hsh : ∀ L, ShR L (p L))
    {w : World} {L : List Tk} (hl : L.length < n) (h : Rd w B E 0 L) :
    Calls Tryz.prog 36 #[rp B, .func (.func 37) #[rp B] #[]] w (Ans w B E 0 (listP p L) (IsLs EIt 69 w.heap.size)) := by
  have hlt := h.lt
  have hfew := h.few
  have hO := fun (_ : Unit) => hp w L hl h
  obtain ⟨i0, hi0, hz0, hz1, hz2⟩ := info_parts info69
  replace hi0 : Hid _ := hi0
  replace hz0 : Hid _ := hz0
  replace hz1 : Hid _ := hz1
  replace hz2 : Hid _ := hz2
  unfold Enters at hK
  clear h
  generalize hF : listP p L = F
  unfold listP at hF
  cases hX : p L with
  | bad a y =>
    rw [hX] at hF hO
    have hF2 : Res.bad a y = F := hF
    subst hF2
    clear hF hp
    replace hO : Hid _ := hO
    replace hX : Hid _ := hX
    go_enter Tryz.func36, Tryz.ntmps36
    go_wp2_with (have hh := hO.out (); go_at_call 37; (with_reducible refine Calls.mono hh ?_); clear hh; rintro e w1 ⟨ho1, rfl⟩)
    exact end_bad rfl ho1
  | ok x M =>
    rw [hX] at hF hO
    have hF2 : listG p M.length [x] M = F := hF
    have hML := hsh L x M hX
    clear hF
    replace hO : Hid _ := hO
    replace hX : Hid _ := hX
    replace hF2 : Hid _ := hF2
    go_enter Tryz.func36, Tryz.ntmps36
    go_wp2_with (have hh := hO.out (); go_at_call 37; (with_reducible refine Calls.mono hh ?_); clear hh; rintro e w1 ⟨ho1, _, rfl, ⟨sp, sn, sc, rfl, hx⟩, hr1⟩)
    have hown : (w1.alloc (.cells #[.int .i64 (opE x.x), .slice sp sn sc, .string (txt (nmE x.x)), .string (txt (prE x.x)), .int .i64 (kE x.x), .bool (bE x.x), .int .i64 (nE x.x), .string (txt (tE x.x)), .slice none 0 0, .string (txt x.n)] 69)).ownsRow w.heap.size 69 10 (.slice (some ⟨w1.heap.size, 0, none⟩) [x].length 1) [x].length [[.int .i64 (opE x.x), .slice sp sn sc, .string (txt (nmE x.x)), .string (txt (prE x.x)), .int .i64 (kE x.x), .bool (bE x.x), .int .i64 (nE x.x), .string (txt (tE x.x)), .slice none 0 0, .string (txt x.n)]].flatten := World.ownsRow_lit w1 #[.int .i64 (opE x.x), .slice sp sn sc, .string (txt (nmE x.x)), .string (txt (prE x.x)), .int .i64 (kE x.x), .bool (bE x.x), .int .i64 (nE x.x), .string (txt (tE x.x)), .slice none 0 0, .string (txt x.n)] 1 ho1.size (by decide) rfl
    have hat : EIt.at' x [.int .i64 (opE x.x), .slice sp sn sc, .string (txt (nmE x.x)), .string (txt (prE x.x)), .int .i64 (kE x.x), .bool (bE x.x), .int .i64 (nE x.x), .string (txt (tE x.x)), .slice none 0 0, .string (txt x.n)] (w.heap.size ≤ ·) w1 := ⟨sp, sn, sc, rfl, hx⟩
    have hls : Ls EIt (fun g => w.heap.size ≤ g ∧ (Value.slice (some ⟨w1.heap.size, 0, none⟩) [x].length 1).ownBlock ≠ some g) (w1.alloc (.cells #[.int .i64 (opE x.x), .slice sp sn sc, .string (txt (nmE x.x)), .string (txt (prE x.x)), .int .i64 (kE x.x), .bool (bE x.x), .int .i64 (nE x.x), .string (txt (tE x.x)), .slice none 0 0, .string (txt x.n)] 69)) [x] [[.int .i64 (opE x.x), .slice sp sn sc, .string (txt (nmE x.x)), .string (txt (prE x.x)), .int .i64 (kE x.x), .bool (bE x.x), .int .i64 (nE x.x), .string (txt (tE x.x)), .slice none 0 0, .string (txt x.n)]] :=
      ⟨EIt.weak _ _ (fun g => w.heap.size ≤ g ∧ g < w1.heap.size) _ _ (fun g hg => ⟨hg.1, fun e => by simp [Value.ownBlock] at e; omega⟩) (EIt.keep _ _ _ _ _ (Below.same (below_new w1 _)) (EIt.lt _ _ _ _ hat)), trivial⟩
    have hr2 := hr1.below (below_new w1 (.cells #[.int .i64 (opE x.x), .slice sp sn sc, .string (txt (nmE x.x)), .string (txt (prE x.x)), .int .i64 (kE x.x), .bool (bE x.x), .int .i64 (nE x.x), .string (txt (tE x.x)), .slice none 0 0, .string (txt x.n)] 69))
    have ho2 := ho1.trans (only_of_below (B := B) (below_new w1 (.cells #[.int .i64 (opE x.x), .slice sp sn sc, .string (txt (nmE x.x)), .string (txt (prE x.x)), .int .i64 (kE x.x), .bool (bE x.x), .int .i64 (nE x.x), .string (txt (tE x.x)), .slice none 0 0, .string (txt x.n)] 69)))
    clear hr1 ho1 hat hO hX
    replace hown : Hid _ := hown
    replace hls : Hid _ := hls
    replace ho2 : Hid _ := ho2
    replace hr2 : Hid _ := hr2
    go_loopg [5] (M.length) (fun k v5 wr => ∃ (l : List Itm) (C : List (List Value)) (M : List Tk) (q : Option Addr) (c : Nat), v5 = .slice q l.length c ∧ wr.ownsRow w.heap.size 69 10 (.slice q l.length c) l.length C.flatten ∧
      Ls EIt (fun g => w.heap.size ≤ g ∧ (Value.slice q l.length c).ownBlock ≠ some g) wr l C ∧ Only (· = B) w wr ∧ Rd wr B E 0 M ∧ M.length ≤ k ∧ M.length ≤ L.length ∧ l.length + M.length ≤ L.length + 1 ∧ listG p k l M = F)
    case atStart => exact ⟨[x], [[.int .i64 (opE x.x), .slice sp sn sc, .string (txt (nmE x.x)), .string (txt (prE x.x)), .int .i64 (kE x.x), .bool (bE x.x), .int .i64 (nE x.x), .string (txt (tE x.x)), .slice none 0 0, .string (txt x.n)]], M, _, _, rfl, hown.out, hls.out, ho2.out, hr2.out, Nat.le_refl _, hML, by simp; omega, hF2.out⟩
    case round =>
      clear hown hls ho2 hr2 hML hF2
      obtain ⟨l, C, M, q, c, rfl, hown, hls, ho, hr, hMk, hML, hcnt, hF⟩ := hrel
      have hP := fun (_ : Unit) => pass_any hr [44]
      have hPk := fun W (hb : Only (· = B) wr W) => own_only hown hb hlt
      cases hw : isW [44] M
      · rw [hw, passed_no hw] at hP
        rw [listG_stop _ hw] at hF
        subst hF
        clear hr hp
        replace hP : Hid _ := hP
        replace hw : Hid _ := hw
        replace hown : Hid _ := hown
        replace hls : Hid _ := hls
        replace ho : Hid _ := ho
        clear hPk
        go_wp2_with (have hh := hP.out (); go_at_call 35; (with_reducible refine Calls.mono hh ?_); clear hh; rintro e w2 ⟨rfl, ho2, hr2⟩)
        go_returns
        exact ⟨ho.out.trans ho2, _, rfl, ⟨_, _, C, rfl, own_only hown.out ho2 hlt, Ls.weak (fun g hg => hg.1) (Ls.keep (Only.same ho2 (fun g hg e => by subst e; exact absurd hg.1 (by omega))) hls.out)⟩, hr2⟩
      · rw [hw, passed_yes hw] at hP
        obtain ⟨t, Mt, hMe⟩ := isW_cons hw
        obtain ⟨k', hk'⟩ : ∃ k', gk = k' + 1 := ⟨gk - 1, by rw [hMe] at hMk; simp at hMk; omega⟩
        have htl : M.tail.length + 1 = M.length := by rw [hMe]; simp
        rw [hk'] at hF
        have hF2 : ((p M.tail).then fun x L => listG p k' (l ++ [x]) L) = F := by rw [← hF, listG, hw]; rfl
        have hO := fun W (hr : Rd W B E 0 M.tail) => hp W M.tail (by omega) hr
        clear hF hr hMe
        replace hP : Hid _ := hP
        replace hw : Hid _ := hw
        replace hown : Hid _ := hown
        replace hls : Hid _ := hls
        replace ho : Hid _ := ho
        replace hPk : Hid _ := hPk
        cases hY : p M.tail with
        | bad a y =>
          rw [hY] at hO hF2
          have hF3 : Res.bad a y = F := hF2
          subst hF3
          clear hF2
          replace hO : Hid _ := hO
          replace hY : Hid _ := hY
          go_wp2_with (first
            | (have hh := hP.out (); go_at_call 35; (with_reducible refine Calls.mono hh ?_); clear hh; rintro e w2 ⟨rfl, ho2, hr2⟩)
            | (have hh := hO.out _ hr2; go_at_call 37; (with_reducible refine Calls.mono hh ?_); clear hh; rintro e w3 ⟨ho3, rfl⟩))
          exact end_bad rfl (ho.out.trans (ho2.trans ho3))
        | ok y M2 =>
          rw [hY] at hO hF2
          have hF3 : listG p k' (l ++ [y]) M2 = F := hF2
          have hM2 := hsh M.tail y M2 hY
          clear hF2
          replace hO : Hid _ := hO
          replace hY : Hid _ := hY
          replace hF3 : Hid _ := hF3
          go_wp2_with (first
            | (at_builtin; refine wpList_append_own_at _ rfl _ _ 25 rfl w.heap.size 69 i0 _ 10 144 Tryz.underlying25 hi0.out hz0.out hz1.out hz2.out rfl (by decide) _ _ _ rfl (own_below (hPk.out _ (ho2.trans ho3)) (below_new _ _)) ⟨w3.heap.size, 0, none⟩ 1 1 [.int .i64 (opE y.x), .slice sp sn sc, .string (txt (nmE y.x)), .string (txt (prE y.x)), .int .i64 (kE y.x), .bool (bE y.x), .int .i64 (nE y.x), .string (txt (tE y.x)), .slice none 0 0, .string (txt y.n)] rfl rfl (news_one w3 _ [.int .i64 (opE y.x), .slice sp sn sc, .string (txt (nmE y.x)), .string (txt (prE y.x)), .int .i64 (kE y.x), .bool (bE y.x), .int .i64 (nE y.x), .string (txt (tE y.x)), .slice none 0 0, .string (txt y.n)] 69 rfl) (EIt.one _ _ _ _ (show EIt.at' y [.int .i64 (opE y.x), .slice sp sn sc, .string (txt (nmE y.x)), .string (txt (prE y.x)), .int .i64 (kE y.x), .bool (bE y.x), .int .i64 (nE y.x), .string (txt (tE y.x)), .slice none 0 0, .string (txt y.n)] (w2.heap.size ≤ ·) w3 from ⟨sp, sn, sc, rfl, hx⟩)) (by unfold maxLen; omega) (by omega) (by have := ho.out.size; have := (ho2.trans ho3).size; simp; omega) ?_; intro v5 w5 ho5 hg5 hnil5 hloc5)
            | (have hh := hP.out (); go_at_call 35; (with_reducible refine Calls.mono hh ?_); clear hh; rintro e w2 ⟨rfl, ho2, hr2⟩)
            | (have hh := hO.out _ hr2; go_at_call 37; (with_reducible refine Calls.mono hh ?_); clear hh; rintro e w3 ⟨ho3, _, rfl, ⟨sp, sn, sc, rfl, hx⟩, hr3⟩))
          have hat : EIt.at' y [.int .i64 (opE y.x), .slice sp sn sc, .string (txt (nmE y.x)), .string (txt (prE y.x)), .int .i64 (kE y.x), .bool (bE y.x), .int .i64 (nE y.x), .string (txt (tE y.x)), .slice none 0 0, .string (txt y.n)] (w2.heap.size ≤ ·) w3 := ⟨sp, sn, sc, rfl, hx⟩
          have hb2 := fun g (hg : (Value.slice q l.length c).ownBlock = some g) => own_blk hown.out hg
          have hy3 : EIt.at' y [.int .i64 (opE y.x), .slice sp sn sc, .string (txt (nmE y.x)), .string (txt (prE y.x)), .int .i64 (kE y.x), .bool (bE y.x), .int .i64 (nE y.x), .string (txt (tE y.x)), .slice none 0 0, .string (txt y.n)] (fun g => w.heap.size ≤ g ∧ (Value.slice q l.length c).ownBlock ≠ some g) w3 := EIt.weak _ _ _ _ _ (fun g hg => by
            have hg' : w2.heap.size ≤ g := hg
            have h1 := ho.out.size
            have h2 := ho2.size
            exact ⟨by omega, fun e => by have := (hb2 g e).2; omega⟩) hat
          have hl3 := Ls.keep (Only.same (ho2.trans ho3) (fun g hg e => by subst e; exact absurd hg.1 (by omega))) hls.out
          have hls5 := Ls.grow (W := w3.alloc (.cells #[.int .i64 (opE y.x), .slice sp sn sc, .string (txt (nmE y.x)), .string (txt (prE y.x)), .int .i64 (kE y.x), .bool (bE y.x), .int .i64 (nE y.x), .string (txt (tE y.x)), .slice none 0 0, .string (txt y.n)] 69)) hl3 hy3 (below_new w3 _) hg5 (hloc5.imp id (fun e => e))
          obtain ⟨q5, c5, rfl⟩ := own_val ho5
          have hS5 := grown_only hg5
          have hblk : ∀ k, (Value.slice q l.length c).ownBlock = some k → w.heap.size ≤ k := fun k hk => (hb2 k hk).1
          have hr5 := (hr3.below (below_new w3 (.cells #[.int .i64 (opE y.x), .slice sp sn sc, .string (txt (nmE y.x)), .string (txt (prE y.x)), .int .i64 (kE y.x), .bool (bE y.x), .int .i64 (nE y.x), .string (txt (tE y.x)), .slice none 0 0, .string (txt y.n)] 69))).turnS hS5 (fun k hk => by have := hblk k hk; omega)
          have hW5 := only_putS ((ho.out.trans (ho2.trans ho3)).trans (only_of_below (below_new w3 (.cells #[.int .i64 (opE y.x), .slice sp sn sc, .string (txt (nmE y.x)), .string (txt (prE y.x)), .int .i64 (kE y.x), .bool (bE y.x), .int .i64 (nE y.x), .string (txt (tE y.x)), .slice none 0 0, .string (txt y.n)] 69)))) hblk hS5
          have hown5 : w5.ownsRow w.heap.size 69 10 (.slice q5 (l ++ [y]).length c5) (l ++ [y]).length (C ++ [([.int .i64 (opE y.x), .slice sp sn sc, .string (txt (nmE y.x)), .string (txt (prE y.x)), .int .i64 (kE y.x), .bool (bE y.x), .int .i64 (nE y.x), .string (txt (tE y.x)), .slice none 0 0, .string (txt y.n)] : List Value)]).flatten := by
            have e : (C ++ [([.int .i64 (opE y.x), .slice sp sn sc, .string (txt (nmE y.x)), .string (txt (prE y.x)), .int .i64 (kE y.x), .bool (bE y.x), .int .i64 (nE y.x), .string (txt (tE y.x)), .slice none 0 0, .string (txt y.n)] : List Value)]).flatten = C.flatten ++ ([.int .i64 (opE y.x), .slice sp sn sc, .string (txt (nmE y.x)), .string (txt (prE y.x)), .int .i64 (kE y.x), .bool (bE y.x), .int .i64 (nE y.x), .string (txt (tE y.x)), .slice none 0 0, .string (txt y.n)] : List Value) := by simp
            rw [e, List.length_append]
            exact ho5
          have hlen : (l ++ [y]).length = l.length + 1 := by simp
          have hls6 : Ls EIt (fun g => w.heap.size ≤ g ∧ (Value.slice q5 (l ++ [y]).length c5).ownBlock ≠ some g) w5 (l ++ [y]) (C ++ [[.int .i64 (opE y.x), .slice sp sn sc, .string (txt (nmE y.x)), .string (txt (prE y.x)), .int .i64 (kE y.x), .bool (bE y.x), .int .i64 (nE y.x), .string (txt (tE y.x)), .slice none 0 0, .string (txt y.n)]]) := by
            rw [hlen]
            exact hls5
          clear hat hy3 hl3 hls5 hS5 hb2 hblk ho5 hg5 hnil5 hloc5
          replace hr5 : Hid _ := hr5
          replace hW5 : Hid _ := hW5
          replace hown5 : Hid _ := hown5
          replace hls6 : Hid _ := hls6
          replace hlen : Hid _ := hlen
          go_wp2_with fail
          go_roundg k'
          case measure => omega
          case rel => exact ⟨l ++ [y], C ++ [([.int .i64 (opE y.x), .slice sp sn sc, .string (txt (nmE y.x)), .string (txt (prE y.x)), .int .i64 (kE y.x), .bool (bE y.x), .int .i64 (nE y.x), .string (txt (tE y.x)), .slice none 0 0, .string (txt y.n)] : List Value)], M2, q5, c5, by rw [hlen.out], hown5.out, hls6.out, hW5.out, hr5.out, by omega, by omega, by rw [hlen.out]; omega, hF3.out⟩

set_option maxRecDepth 100000 in
set_option maxHeartbeats 2000000 in
theorem listedPt_any {B E n : Nat} {p : List Tk → Res Pt} (hK : Enters 34) (hp : ∀ W L, L.length < n → Rd W B E 0 L → Calls Tryz.prog 34 #[rp B] W (Ans W B E 0 (p L) (IsPt W.heap.size))) (hsh : ∀ L, ShR L (p L))
    {w : World} {L : List Tk} (hl : L.length < n) (h : Rd w B E 0 L) :
    Calls Tryz.prog 33 #[rp B, .func (.func 34) #[rp B] #[]] w (Ans w B E 0 (listP p L) (IsLs EPt 61 w.heap.size)) := by
  have hlt := h.lt
  have hfew := h.few
  have hO := fun (_ : Unit) => hp w L hl h
  obtain ⟨i0, hi0, hz0, hz1, hz2⟩ := info_parts info61
  replace hi0 : Hid _ := hi0
  replace hz0 : Hid _ := hz0
  replace hz1 : Hid _ := hz1
  replace hz2 : Hid _ := hz2
  unfold Enters at hK
  clear h
  generalize hF : listP p L = F
  unfold listP at hF
  cases hX : p L with
  | bad a y =>
    rw [hX] at hF hO
    have hF2 : Res.bad a y = F := hF
    subst hF2
    clear hF hp
    replace hO : Hid _ := hO
    replace hX : Hid _ := hX
    go_enter Tryz.func33, Tryz.ntmps33
    go_wp2_with (have hh := hO.out (); go_at_call 34; (with_reducible refine Calls.mono hh ?_); clear hh; rintro e w1 ⟨ho1, rfl⟩)
    exact end_bad rfl ho1
  | ok x M =>
    rw [hX] at hF hO
    have hF2 : listG p M.length [x] M = F := hF
    have hML := hsh L x M hX
    clear hF
    replace hO : Hid _ := hO
    replace hX : Hid _ := hX
    replace hF2 : Hid _ := hF2
    go_enter Tryz.func33, Tryz.ntmps33
    go_wp2_with (have hh := hO.out (); go_at_call 34; (with_reducible refine Calls.mono hh ?_); clear hh; rintro e w1 ⟨ho1, _, rfl, ⟨q1, d1, q2, d2, rfl, hx⟩, hr1⟩)
    have hown : (w1.alloc (.cells #[.slice q1 x.nodes.length d1, .slice q2 x.edges.length d2] 61)).ownsRow w.heap.size 61 2 (.slice (some ⟨w1.heap.size, 0, none⟩) [x].length 1) [x].length [[.slice q1 x.nodes.length d1, .slice q2 x.edges.length d2]].flatten := World.ownsRow_lit w1 #[.slice q1 x.nodes.length d1, .slice q2 x.edges.length d2] 1 ho1.size (by decide) rfl
    have hat : EPt.at' x [.slice q1 x.nodes.length d1, .slice q2 x.edges.length d2] (w.heap.size ≤ ·) w1 := hx
    have hls : Ls EPt (fun g => w.heap.size ≤ g ∧ (Value.slice (some ⟨w1.heap.size, 0, none⟩) [x].length 1).ownBlock ≠ some g) (w1.alloc (.cells #[.slice q1 x.nodes.length d1, .slice q2 x.edges.length d2] 61)) [x] [[.slice q1 x.nodes.length d1, .slice q2 x.edges.length d2]] :=
      ⟨EPt.weak _ _ (fun g => w.heap.size ≤ g ∧ g < w1.heap.size) _ _ (fun g hg => ⟨hg.1, fun e => by simp [Value.ownBlock] at e; omega⟩) (EPt.keep _ _ _ _ _ (Below.same (below_new w1 _)) (EPt.lt _ _ _ _ hat)), trivial⟩
    have hr2 := hr1.below (below_new w1 (.cells #[.slice q1 x.nodes.length d1, .slice q2 x.edges.length d2] 61))
    have ho2 := ho1.trans (only_of_below (B := B) (below_new w1 (.cells #[.slice q1 x.nodes.length d1, .slice q2 x.edges.length d2] 61)))
    clear hr1 ho1 hat hO hX
    replace hown : Hid _ := hown
    replace hls : Hid _ := hls
    replace ho2 : Hid _ := ho2
    replace hr2 : Hid _ := hr2
    go_loopg [5] (M.length) (fun k v5 wr => ∃ (l : List Pt) (C : List (List Value)) (M : List Tk) (q : Option Addr) (c : Nat), v5 = .slice q l.length c ∧ wr.ownsRow w.heap.size 61 2 (.slice q l.length c) l.length C.flatten ∧
      Ls EPt (fun g => w.heap.size ≤ g ∧ (Value.slice q l.length c).ownBlock ≠ some g) wr l C ∧ Only (· = B) w wr ∧ Rd wr B E 0 M ∧ M.length ≤ k ∧ M.length ≤ L.length ∧ l.length + M.length ≤ L.length + 1 ∧ listG p k l M = F)
    case atStart => exact ⟨[x], [[.slice q1 x.nodes.length d1, .slice q2 x.edges.length d2]], M, _, _, rfl, hown.out, hls.out, ho2.out, hr2.out, Nat.le_refl _, hML, by simp; omega, hF2.out⟩
    case round =>
      clear hown hls ho2 hr2 hML hF2
      obtain ⟨l, C, M, q, c, rfl, hown, hls, ho, hr, hMk, hML, hcnt, hF⟩ := hrel
      have hP := fun (_ : Unit) => pass_any hr [44]
      have hPk := fun W (hb : Only (· = B) wr W) => own_only hown hb hlt
      cases hw : isW [44] M
      · rw [hw, passed_no hw] at hP
        rw [listG_stop _ hw] at hF
        subst hF
        clear hr hp
        replace hP : Hid _ := hP
        replace hw : Hid _ := hw
        replace hown : Hid _ := hown
        replace hls : Hid _ := hls
        replace ho : Hid _ := ho
        clear hPk
        go_wp2_with (have hh := hP.out (); go_at_call 35; (with_reducible refine Calls.mono hh ?_); clear hh; rintro e w2 ⟨rfl, ho2, hr2⟩)
        go_returns
        exact ⟨ho.out.trans ho2, _, rfl, ⟨_, _, C, rfl, own_only hown.out ho2 hlt, Ls.weak (fun g hg => hg.1) (Ls.keep (Only.same ho2 (fun g hg e => by subst e; exact absurd hg.1 (by omega))) hls.out)⟩, hr2⟩
      · rw [hw, passed_yes hw] at hP
        obtain ⟨t, Mt, hMe⟩ := isW_cons hw
        obtain ⟨k', hk'⟩ : ∃ k', gk = k' + 1 := ⟨gk - 1, by rw [hMe] at hMk; simp at hMk; omega⟩
        have htl : M.tail.length + 1 = M.length := by rw [hMe]; simp
        rw [hk'] at hF
        have hF2 : ((p M.tail).then fun x L => listG p k' (l ++ [x]) L) = F := by rw [← hF, listG, hw]; rfl
        have hO := fun W (hr : Rd W B E 0 M.tail) => hp W M.tail (by omega) hr
        clear hF hr hMe
        replace hP : Hid _ := hP
        replace hw : Hid _ := hw
        replace hown : Hid _ := hown
        replace hls : Hid _ := hls
        replace ho : Hid _ := ho
        replace hPk : Hid _ := hPk
        cases hY : p M.tail with
        | bad a y =>
          rw [hY] at hO hF2
          have hF3 : Res.bad a y = F := hF2
          subst hF3
          clear hF2
          replace hO : Hid _ := hO
          replace hY : Hid _ := hY
          go_wp2_with (first
            | (have hh := hP.out (); go_at_call 35; (with_reducible refine Calls.mono hh ?_); clear hh; rintro e w2 ⟨rfl, ho2, hr2⟩)
            | (have hh := hO.out _ hr2; go_at_call 34; (with_reducible refine Calls.mono hh ?_); clear hh; rintro e w3 ⟨ho3, rfl⟩))
          exact end_bad rfl (ho.out.trans (ho2.trans ho3))
        | ok y M2 =>
          rw [hY] at hO hF2
          have hF3 : listG p k' (l ++ [y]) M2 = F := hF2
          have hM2 := hsh M.tail y M2 hY
          clear hF2
          replace hO : Hid _ := hO
          replace hY : Hid _ := hY
          replace hF3 : Hid _ := hF3
          go_wp2_with (first
            | (at_builtin; refine wpList_append_own_at _ rfl _ _ 23 rfl w.heap.size 61 i0 _ 2 48 Tryz.underlying23 hi0.out hz0.out hz1.out hz2.out rfl (by decide) _ _ _ rfl (own_below (hPk.out _ (ho2.trans ho3)) (below_new _ _)) ⟨w3.heap.size, 0, none⟩ 1 1 [.slice q1 y.nodes.length d1, .slice q2 y.edges.length d2] rfl rfl (news_one w3 _ [.slice q1 y.nodes.length d1, .slice q2 y.edges.length d2] 61 rfl) (EPt.one _ _ _ _ (show EPt.at' y [.slice q1 y.nodes.length d1, .slice q2 y.edges.length d2] (w2.heap.size ≤ ·) w3 from hx)) (by unfold maxLen; omega) (by omega) (by have := ho.out.size; have := (ho2.trans ho3).size; simp; omega) ?_; intro v5 w5 ho5 hg5 hnil5 hloc5)
            | (have hh := hP.out (); go_at_call 35; (with_reducible refine Calls.mono hh ?_); clear hh; rintro e w2 ⟨rfl, ho2, hr2⟩)
            | (have hh := hO.out _ hr2; go_at_call 34; (with_reducible refine Calls.mono hh ?_); clear hh; rintro e w3 ⟨ho3, _, rfl, ⟨q1, d1, q2, d2, rfl, hx⟩, hr3⟩))
          have hat : EPt.at' y [.slice q1 y.nodes.length d1, .slice q2 y.edges.length d2] (w2.heap.size ≤ ·) w3 := hx
          have hb2 := fun g (hg : (Value.slice q l.length c).ownBlock = some g) => own_blk hown.out hg
          have hy3 : EPt.at' y [.slice q1 y.nodes.length d1, .slice q2 y.edges.length d2] (fun g => w.heap.size ≤ g ∧ (Value.slice q l.length c).ownBlock ≠ some g) w3 := EPt.weak _ _ _ _ _ (fun g hg => by
            have hg' : w2.heap.size ≤ g := hg
            have h1 := ho.out.size
            have h2 := ho2.size
            exact ⟨by omega, fun e => by have := (hb2 g e).2; omega⟩) hat
          have hl3 := Ls.keep (Only.same (ho2.trans ho3) (fun g hg e => by subst e; exact absurd hg.1 (by omega))) hls.out
          have hls5 := Ls.grow (W := w3.alloc (.cells #[.slice q1 y.nodes.length d1, .slice q2 y.edges.length d2] 61)) hl3 hy3 (below_new w3 _) hg5 (hloc5.imp id (fun e => e))
          obtain ⟨q5, c5, rfl⟩ := own_val ho5
          have hS5 := grown_only hg5
          have hblk : ∀ k, (Value.slice q l.length c).ownBlock = some k → w.heap.size ≤ k := fun k hk => (hb2 k hk).1
          have hr5 := (hr3.below (below_new w3 (.cells #[.slice q1 y.nodes.length d1, .slice q2 y.edges.length d2] 61))).turnS hS5 (fun k hk => by have := hblk k hk; omega)
          have hW5 := only_putS ((ho.out.trans (ho2.trans ho3)).trans (only_of_below (below_new w3 (.cells #[.slice q1 y.nodes.length d1, .slice q2 y.edges.length d2] 61)))) hblk hS5
          have hown5 : w5.ownsRow w.heap.size 61 2 (.slice q5 (l ++ [y]).length c5) (l ++ [y]).length (C ++ [([.slice q1 y.nodes.length d1, .slice q2 y.edges.length d2] : List Value)]).flatten := by
            have e : (C ++ [([.slice q1 y.nodes.length d1, .slice q2 y.edges.length d2] : List Value)]).flatten = C.flatten ++ ([.slice q1 y.nodes.length d1, .slice q2 y.edges.length d2] : List Value) := by simp
            rw [e, List.length_append]
            exact ho5
          have hlen : (l ++ [y]).length = l.length + 1 := by simp
          have hls6 : Ls EPt (fun g => w.heap.size ≤ g ∧ (Value.slice q5 (l ++ [y]).length c5).ownBlock ≠ some g) w5 (l ++ [y]) (C ++ [[.slice q1 y.nodes.length d1, .slice q2 y.edges.length d2]]) := by
            rw [hlen]
            exact hls5
          clear hat hy3 hl3 hls5 hS5 hb2 hblk ho5 hg5 hnil5 hloc5
          replace hr5 : Hid _ := hr5
          replace hW5 : Hid _ := hW5
          replace hown5 : Hid _ := hown5
          replace hls6 : Hid _ := hls6
          replace hlen : Hid _ := hlen
          go_wp2_with fail
          go_roundg k'
          case measure => omega
          case rel => exact ⟨l ++ [y], C ++ [([.slice q1 y.nodes.length d1, .slice q2 y.edges.length d2] : List Value)], M2, q5, c5, by rw [hlen.out], hown5.out, hls6.out, hW5.out, hr5.out, by omega, by omega, by rw [hlen.out]; omega, hF3.out⟩
end Go.Proofs.YtefenbonjepjgaaGreatDoor
