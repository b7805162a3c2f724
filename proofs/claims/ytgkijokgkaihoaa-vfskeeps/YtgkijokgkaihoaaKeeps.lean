/-
  VfsKeeps: the walk of the statement's own text.
-/
import Derived.Test.YtgkijokgkaihoaaKp2
import Derived.Test.YtgkijokgkaihoaaNew2
import Derived.WalkLawsBesides
import Derived.Deep.RegionHeld3
import Derived.Deep.Cut
namespace Go.Proofs.Ytgkijokgkaihoaa
open Go.RowKit Go.WideMaps Go.Maps

theorem szO : (⟨#[111, 119, 110]⟩ : ByteArray).size ≤ maxLen := by decide

set_option maxRecDepth 100000 in
set_option maxHeartbeats 4000000 in
theorem keeps_walk (ga : Option Addr) (gn gc : Nat) (G : Nat → PgV) (a1 : Option Addr) (n c : Nat) (D : Nat → OpV) (fa : Option Addr) (fc : Nat) (zs : List Int) (w : World)
    (hgn : gn ≤ 17592186044416) (hpgs : PgsAt w ga gn G) (hn : n ≤ 17592186044416) (hops : OpsAt w a1 n D) (hfn : zs.length * 8 ≤ 140737488355328)
    (hfr : zs = [] ∨ ∃ b off, fa = some ⟨b, off, none⟩ ∧ ∀ i, i < zs.length → w.cell? ⟨b, off + i, none⟩ = some (.int .i64 (zs.getD i 0))) :
    Calls Try.prog 4 #[.slice ga gn gc, .slice a1 n c, .slice fa zs.length fc] w fun e w' => e = .returned (.bool true) ∧ Below w.heap.size w w' := by
  go_enter Try.func4, Try.ntmps4
  go_wp2_with (first
    | (go_at_call 9; refine (head_any _).mono ?_; rintro e w1 ⟨rfl, b1⟩)
    | (go_at_call 10; refine (New_any _ fa fc zs _ (by decide) (by decide) hfn (faults_below hfr b1)).mono ?_; rintro e w2 ⟨p, mb, fv, rfl, h2, b2⟩))
  have b12 : Below w.heap.size w w2 := b1.trans (b2.mono b1.size)
  have hB := b1.size
  generalize w1.heap.size = B at h2 hB
  clear b1 b2 hfr
  have hk0 : Kp w w2 B p mb fv (newSt 1099511627776 (rise zs)) (.slice none 0 0) [] zs 0 :=
    ⟨h2, World.ownsRow_nil _ _ _ _, by simp, rfl, by simp [Value.ownBlock], rfl, fun e => by subst e; simp [newSt, rise], by simp [newSt], b12⟩
  clear h2 b12
  go_loopw [9, 10] (fun wv i wr => ∃ (k : Nat) (S : St) (ws : List (Value × List UInt8)), k ≤ max gn n ∧ i = .int .i64 k ∧ Kp w wr B p mb fv S wv ws zs (3 * (k : Int))) (fun _ i _ => max gn n - (intOf i).toNat)
  case atStart => exact ⟨0, _, [], Nat.zero_le _, rfl, hk0⟩
  case round =>
    obtain ⟨k, S, ws, hk, rfl, hkp⟩ := hrel
    by_cases hgk : k < gn
    · rcases hpgs with h0 | ⟨gb, goff, rfl, hgall⟩
      · omega
      obtain ⟨hgc, hgl, hgp⟩ := hgall k hgk
      generalize G k = y at hgc hgl hgp
      clear hgall
      have hgc' : wr.cell? ⟨gb, goff + k, none⟩ = some (.slice y.av y.n y.c) := (hkp.below.cell (World.block_lt_of_cell? w _ hgc)).trans hgc
      have hgp' := hgp.below hkp.below
      have hcl0 := hkp.calls
      have hg0 : (0 : Int) ≤ (k : Int) := by omega
      have hg1 : (k : Int) < (gn : Int) := by omega
      go_wp2_with fail
      refine (Append_anyR hkp.fs ⟨#[111, 119, 110]⟩ szO y.av y.n y.c y.pg hgl hgp' (by omega)).mono ?_
      rintro e w3 ⟨rfl, S3, hf3, hr3, ha3, hR3⟩
      have n14 := hkp.no14 ⟨#[111, 119, 110]⟩ y.n
      have n13 := fun hz => hkp.no13 hz ⟨#[111, 119, 110]⟩ y.n
      generalize apErr S ⟨#[111, 119, 110]⟩ y.n = er at ha3 n14 n13
      by_cases he0 : er = 0
      · subst he0
        obtain ⟨hp1, hb3, hrow3, hw4, hgrow3⟩ := hkp.ownYes hB hf3 hr3 hR3 ha3
        have hgc3 : w3.cell? ⟨gb, goff + k, none⟩ = some (.slice y.av y.n y.c) := (hb3.cell (World.block_lt_of_cell? w _ hgc)).trans hgc
        have hpv : ∃ a c, (Value.slice y.av y.n y.c) = .slice (some a) y.pg.length c ∧ BytesAt w a y.pg := by
          rcases hgp with e | ⟨a, e, hb⟩
          · rw [e] at hp1; simp at hp1
          · exact ⟨a, y.c, by rw [e, hgl], hb⟩
        obtain ⟨i0, hi0', hz0, hz1, hz2⟩ := info_parts info29
        have Hg : Hid (∀ (w2 : World) (o : Obj) (v' pv : Value), (∃ a c, pv = .slice (some a) y.pg.length c ∧ BytesAt w a y.pg) → w2.ownsRow w.heap.size 29 1 v' (ws.length + 1) (ws.map Prod.fst ++ [pv]) → (w3.alloc o).grownBy w2 u9.ownBlock → (v'.ownBlock = u9.ownBlock ∨ v'.ownBlock = some (w3.alloc o).heap.size) → Kp w w2 B p mb fv S3 v' (ws ++ [(pv, y.pg)]) zs (3 * (k : Int) + 1)) := hgrow3
        clear hf3 hr3 hR3 ha3 hkp n14 n13 hgc' hgp' hgc hgp hgrow3
        go_upto_region 15 with (at_builtin; refine wpList_append_own_at _ rfl _ _ 40 rfl w.heap.size 29 i0 (.slice none 0 0) 1 24 Try.underlying40 hi0' hz0 hz1 hz2 rfl (by decide) _ _ _ rfl (hrow3.alloc _) ⟨w3.heap.size, 0, none⟩ 1 1 [.slice y.av y.n y.c] rfl rfl (cell_one_new _ _ _) (by simp [Value.oneCell']) (by unfold maxLen; omega) (by omega) (by have := hb3.size; simp; omega) ?_; intro v4 w4 hown4 hgr4 hnil4 hloc4)
        have hkp := Hg.out w4 _ v4 _ hpv hown4 hgr4 hloc4
        clear hown4 hgr4 hnil4 hloc4 Hg hpv hgc3 hrow3 hb3 hw4 hi0' hz0 hz1 hz2 hp1
        by_cases hl : k < n
        · rcases hops with h0 | ⟨b, off, rfl, hall⟩
          · omega
          have hop0 := hall k hl
          generalize D k = x at hop0
          clear hall
          have hop := hop0.below hkp.below
          have k1 := hop.c1
          have hi0 : (0 : Int) ≤ (k : Int) := by omega
          have hi1 : (k : Int) < (n : Int) := by omega
          have hcl := hkp.calls
          by_cases hnO : x.name.data.toList ≠ ownN
          · have hbn : (!(x.name.toList == [111, 119, 110])) = true := by simpa [ByteArray.toList_eq, ownN] using hnO
            go_wp2_with fail
            have hkd := hkp.drew
            have hopd := hop0.below hkd.below
            go_region_held3 (fun w' => w'.cell? ⟨b, off + k * 4 + 1, none⟩ = some (.string x.name) ∧ w'.cell? ⟨b, off + k * 4 + 2, none⟩ = some (.slice x.av x.bl x.bc))
              (first | exact ⟨hopd.c1, hopd.c2⟩ | exact ⟨(hop0.below hk4.below).c1, (hop0.below hk4.below).c2⟩)
              (first
                | (go_at_call 12; refine (Append_anyR hkd.fs x.name hop0.nm x.av x.bl x.bc x.pg hop0.len hopd.byt (by omega)).mono ?_; rintro e w4 ⟨rfl, S4, hf4, hr4, ha4, hR4⟩; have hk4 := hkd.other hB hf4 hr4 hR4 ha4 hnO))
            have hk4d := hk4.drew
            have hop4 := hop0.below hk4d.below
            have hc4 := hk4.calls
            clear hf4 hr4 ha4 hR4 hkd hopd hbn
            go_wp2_with fail
            go_region_held3 (fun w' => w'.cell? ⟨b, off + k * 4 + 1, none⟩ = some (.string x.name) ∧ w'.cell? ⟨b, off + k * 4 + 3, none⟩ = some (.int .i64 x.num))
              (first | exact ⟨hop4.c1, hop4.c3⟩ | exact ⟨(hop0.below hk5.below).c1, (hop0.below hk5.below).c3⟩)
              (first
                | (go_at_call 14; refine (Read_cnt hk4d.fs x.name hop0.nm x.num (by omega)).mono ?_; rintro e w5 ⟨v5, er5, rfl, hf5, hr5⟩; have hk5 := hk4d.read hB hf5 hr5))
            have hop5 := hop0.below hk5.below
            have j0 := hop5.c0
            have j1 := hop5.c1
            have hc5 := hk5.calls
            clear hf5 hr5 hk4d hop4
            go_wp2_with fail
            · refine (Delete_any hk5.fs x.name hop0.nm (by omega)).mono ?_
              rintro e w6 ⟨rfl, hf6, hr6⟩
              have hk6 := hk5.del hB hf6 hr6 hnO
              clear hf6 hr6
              go_wp2_with fail
              go_roundw
              case rel => exact ⟨k + 1, _, _, by omega, by go_num, hk6.mono (by omega)⟩
              case measure => simp [intOf]; omega
            · go_wp2_with fail
              go_roundw
              case rel => exact ⟨k + 1, _, _, by omega, by go_num, hk5.mono (by omega)⟩
              case measure => simp [intOf]; omega
          · have hbn : (!(x.name.toList == [111, 119, 110])) = false := by simpa [ByteArray.toList_eq, ownN] using hnO
            go_wp2_with fail
            go_roundw
            case rel => exact ⟨k + 1, _, _, by omega, by go_num, hkp.mono (by omega)⟩
            case measure => simp [intOf]; omega
        · go_wp2_with fail
          go_roundw
          case rel => exact ⟨k + 1, _, _, by omega, by go_num, hkp.mono (by omega)⟩
          case measure => simp [intOf]; omega
      · have hk3 := hkp.ownNo hB hf3 hr3 hR3 ha3 he0
        have e0 : (er == 0) = false := by simpa using he0
        have e14 : (er == 14) = false := by simpa using n14
        clear hf3 hr3 hR3 ha3 hkp he0 n14 hgc' hgp' hgc hgp
        have hkp := hk3
        clear hk3
        by_cases h13 : er = 13
        · have hzn : ((zs.length : Int) == 0) = false := by
            have : zs ≠ [] := fun hz => n13 hz h13
            simpa using this
          subst h13
          clear n13 e0 e14
          by_cases hl : k < n
          · rcases hops with h0 | ⟨b, off, rfl, hall⟩
            · omega
            have hop0 := hall k hl
            generalize D k = x at hop0
            clear hall
            have hop := hop0.below hkp.below
            have k1 := hop.c1
            have hi0 : (0 : Int) ≤ (k : Int) := by omega
            have hi1 : (k : Int) < (n : Int) := by omega
            have hcl := hkp.calls
            by_cases hnO : x.name.data.toList ≠ ownN
            · have hbn : (!(x.name.toList == [111, 119, 110])) = true := by simpa [ByteArray.toList_eq, ownN] using hnO
              go_wp2_with fail
              have hkd := hkp.drew
              have hopd := hop0.below hkd.below
              go_region_held3 (fun w' => w'.cell? ⟨b, off + k * 4 + 1, none⟩ = some (.string x.name) ∧ w'.cell? ⟨b, off + k * 4 + 2, none⟩ = some (.slice x.av x.bl x.bc))
                (first | exact ⟨hopd.c1, hopd.c2⟩ | exact ⟨(hop0.below hk4.below).c1, (hop0.below hk4.below).c2⟩)
                (first
                  | (go_at_call 12; refine (Append_anyR hkd.fs x.name hop0.nm x.av x.bl x.bc x.pg hop0.len hopd.byt (by omega)).mono ?_; rintro e w4 ⟨rfl, S4, hf4, hr4, ha4, hR4⟩; have hk4 := hkd.other hB hf4 hr4 hR4 ha4 hnO))
              have hk4d := hk4.drew
              have hop4 := hop0.below hk4d.below
              have hc4 := hk4.calls
              clear hf4 hr4 ha4 hR4 hkd hopd hbn
              go_wp2_with fail
              go_region_held3 (fun w' => w'.cell? ⟨b, off + k * 4 + 1, none⟩ = some (.string x.name) ∧ w'.cell? ⟨b, off + k * 4 + 3, none⟩ = some (.int .i64 x.num))
                (first | exact ⟨hop4.c1, hop4.c3⟩ | exact ⟨(hop0.below hk5.below).c1, (hop0.below hk5.below).c3⟩)
                (first
                  | (go_at_call 14; refine (Read_cnt hk4d.fs x.name hop0.nm x.num (by omega)).mono ?_; rintro e w5 ⟨v5, er5, rfl, hf5, hr5⟩; have hk5 := hk4d.read hB hf5 hr5))
              have hop5 := hop0.below hk5.below
              have j0 := hop5.c0
              have j1 := hop5.c1
              have hc5 := hk5.calls
              clear hf5 hr5 hk4d hop4
              go_wp2_with fail
              · refine (Delete_any hk5.fs x.name hop0.nm (by omega)).mono ?_
                rintro e w6 ⟨rfl, hf6, hr6⟩
                have hk6 := hk5.del hB hf6 hr6 hnO
                clear hf6 hr6
                go_wp2_with fail
                go_roundw
                case rel => exact ⟨k + 1, _, _, by omega, by go_num, hk6.mono (by omega)⟩
                case measure => simp [intOf]; omega
              · go_wp2_with fail
                go_roundw
                case rel => exact ⟨k + 1, _, _, by omega, by go_num, hk5.mono (by omega)⟩
                case measure => simp [intOf]; omega
            · have hbn : (!(x.name.toList == [111, 119, 110])) = false := by simpa [ByteArray.toList_eq, ownN] using hnO
              go_wp2_with fail
              go_roundw
              case rel => exact ⟨k + 1, _, _, by omega, by go_num, hkp.mono (by omega)⟩
              case measure => simp [intOf]; omega
          · go_wp2_with fail
            go_roundw
            case rel => exact ⟨k + 1, _, _, by omega, by go_num, hkp.mono (by omega)⟩
            case measure => simp [intOf]; omega
        · have e13 : (er == 13) = false := by simpa using h13
          clear n13 h13
          by_cases hl : k < n
          · rcases hops with h0 | ⟨b, off, rfl, hall⟩
            · omega
            have hop0 := hall k hl
            generalize D k = x at hop0
            clear hall
            have hop := hop0.below hkp.below
            have k1 := hop.c1
            have hi0 : (0 : Int) ≤ (k : Int) := by omega
            have hi1 : (k : Int) < (n : Int) := by omega
            have hcl := hkp.calls
            by_cases hnO : x.name.data.toList ≠ ownN
            · have hbn : (!(x.name.toList == [111, 119, 110])) = true := by simpa [ByteArray.toList_eq, ownN] using hnO
              go_wp2_with fail
              have hkd := hkp.drew
              have hopd := hop0.below hkd.below
              go_region_held3 (fun w' => w'.cell? ⟨b, off + k * 4 + 1, none⟩ = some (.string x.name) ∧ w'.cell? ⟨b, off + k * 4 + 2, none⟩ = some (.slice x.av x.bl x.bc))
                (first | exact ⟨hopd.c1, hopd.c2⟩ | exact ⟨(hop0.below hk4.below).c1, (hop0.below hk4.below).c2⟩)
                (first
                  | (go_at_call 12; refine (Append_anyR hkd.fs x.name hop0.nm x.av x.bl x.bc x.pg hop0.len hopd.byt (by omega)).mono ?_; rintro e w4 ⟨rfl, S4, hf4, hr4, ha4, hR4⟩; have hk4 := hkd.other hB hf4 hr4 hR4 ha4 hnO))
              have hk4d := hk4.drew
              have hop4 := hop0.below hk4d.below
              have hc4 := hk4.calls
              clear hf4 hr4 ha4 hR4 hkd hopd hbn
              go_wp2_with fail
              go_region_held3 (fun w' => w'.cell? ⟨b, off + k * 4 + 1, none⟩ = some (.string x.name) ∧ w'.cell? ⟨b, off + k * 4 + 3, none⟩ = some (.int .i64 x.num))
                (first | exact ⟨hop4.c1, hop4.c3⟩ | exact ⟨(hop0.below hk5.below).c1, (hop0.below hk5.below).c3⟩)
                (first
                  | (go_at_call 14; refine (Read_cnt hk4d.fs x.name hop0.nm x.num (by omega)).mono ?_; rintro e w5 ⟨v5, er5, rfl, hf5, hr5⟩; have hk5 := hk4d.read hB hf5 hr5))
              have hop5 := hop0.below hk5.below
              have j0 := hop5.c0
              have j1 := hop5.c1
              have hc5 := hk5.calls
              clear hf5 hr5 hk4d hop4
              go_wp2_with fail
              · refine (Delete_any hk5.fs x.name hop0.nm (by omega)).mono ?_
                rintro e w6 ⟨rfl, hf6, hr6⟩
                have hk6 := hk5.del hB hf6 hr6 hnO
                clear hf6 hr6
                go_wp2_with fail
                go_roundw
                case rel => exact ⟨k + 1, _, _, by omega, by go_num, hk6.mono (by omega)⟩
                case measure => simp [intOf]; omega
              · go_wp2_with fail
                go_roundw
                case rel => exact ⟨k + 1, _, _, by omega, by go_num, hk5.mono (by omega)⟩
                case measure => simp [intOf]; omega
            · have hbn : (!(x.name.toList == [111, 119, 110])) = false := by simpa [ByteArray.toList_eq, ownN] using hnO
              go_wp2_with fail
              go_roundw
              case rel => exact ⟨k + 1, _, _, by omega, by go_num, hkp.mono (by omega)⟩
              case measure => simp [intOf]; omega
          · go_wp2_with fail
            go_roundw
            case rel => exact ⟨k + 1, _, _, by omega, by go_num, hkp.mono (by omega)⟩
            case measure => simp [intOf]; omega
    · have hkp := hkp.mono (show (3 * (k : Int)) ≤ 3 * (k : Int) + 1 by omega)
      by_cases hl : k < n
      · rcases hops with h0 | ⟨b, off, rfl, hall⟩
        · omega
        have hop0 := hall k hl
        generalize D k = x at hop0
        clear hall
        have hop := hop0.below hkp.below
        have k1 := hop.c1
        have hi0 : (0 : Int) ≤ (k : Int) := by omega
        have hi1 : (k : Int) < (n : Int) := by omega
        have hcl := hkp.calls
        by_cases hnO : x.name.data.toList ≠ ownN
        · have hbn : (!(x.name.toList == [111, 119, 110])) = true := by simpa [ByteArray.toList_eq, ownN] using hnO
          go_wp2_with fail
          have hkd := hkp.drew
          have hopd := hop0.below hkd.below
          go_region_held3 (fun w' => w'.cell? ⟨b, off + k * 4 + 1, none⟩ = some (.string x.name) ∧ w'.cell? ⟨b, off + k * 4 + 2, none⟩ = some (.slice x.av x.bl x.bc))
            (first | exact ⟨hopd.c1, hopd.c2⟩ | exact ⟨(hop0.below hk4.below).c1, (hop0.below hk4.below).c2⟩)
            (first
              | (go_at_call 12; refine (Append_anyR hkd.fs x.name hop0.nm x.av x.bl x.bc x.pg hop0.len hopd.byt (by omega)).mono ?_; rintro e w4 ⟨rfl, S4, hf4, hr4, ha4, hR4⟩; have hk4 := hkd.other hB hf4 hr4 hR4 ha4 hnO))
          have hk4d := hk4.drew
          have hop4 := hop0.below hk4d.below
          have hc4 := hk4.calls
          clear hf4 hr4 ha4 hR4 hkd hopd hbn
          go_wp2_with fail
          go_region_held3 (fun w' => w'.cell? ⟨b, off + k * 4 + 1, none⟩ = some (.string x.name) ∧ w'.cell? ⟨b, off + k * 4 + 3, none⟩ = some (.int .i64 x.num))
            (first | exact ⟨hop4.c1, hop4.c3⟩ | exact ⟨(hop0.below hk5.below).c1, (hop0.below hk5.below).c3⟩)
            (first
              | (go_at_call 14; refine (Read_cnt hk4d.fs x.name hop0.nm x.num (by omega)).mono ?_; rintro e w5 ⟨v5, er5, rfl, hf5, hr5⟩; have hk5 := hk4d.read hB hf5 hr5))
          have hop5 := hop0.below hk5.below
          have j0 := hop5.c0
          have j1 := hop5.c1
          have hc5 := hk5.calls
          clear hf5 hr5 hk4d hop4
          go_wp2_with fail
          · refine (Delete_any hk5.fs x.name hop0.nm (by omega)).mono ?_
            rintro e w6 ⟨rfl, hf6, hr6⟩
            have hk6 := hk5.del hB hf6 hr6 hnO
            clear hf6 hr6
            go_wp2_with fail
            go_roundw
            case rel => exact ⟨k + 1, _, _, by omega, by go_num, hk6.mono (by omega)⟩
            case measure => simp [intOf]; omega
          · go_wp2_with fail
            go_roundw
            case rel => exact ⟨k + 1, _, _, by omega, by go_num, hk5.mono (by omega)⟩
            case measure => simp [intOf]; omega
        · have hbn : (!(x.name.toList == [111, 119, 110])) = false := by simpa [ByteArray.toList_eq, ownN] using hnO
          go_wp2_with fail
          go_roundw
          case rel => exact ⟨k + 1, _, _, by omega, by go_num, hkp.mono (by omega)⟩
          case measure => simp [intOf]; omega
      · obtain ⟨wa, wc, rfl⟩ := row_form hkp.row
        have hCl : (S.C (⟨#[111, 119, 110]⟩ : ByteArray).data.toList).length = ws.length := by
          have := congrArg List.length hkp.eq
          show (S.C ownN).length = ws.length
          simpa using this
        have hw4 : ws.length ≤ 4096 := by rw [← hCl]; exact (hkp.fs.pok ownN).1
        have hKm : (3 * (k : Int) + 1) ≤ 105553116266497 := by omega
        generalize (3 * (k : Int) + 1) = KB at hkp hKm
        clear hops hpgs hk0
        go_wp2_with (go_at_call 19; refine (Pages_any hkp.fs ⟨#[111, 119, 110]⟩ szO).mono ?_; rintro e w3 ⟨rfl, rfl⟩; rw [hCl])
        clear hCl hgk hl
        go_loopw [12] (fun i wx => ∃ (j : Nat) (S2 : St), j ≤ ws.length ∧ i = .int .i64 j ∧ Kp w wx B p mb fv S2 (.slice wa ws.length wc) ws zs (KB + (j : Int) * ((zs.length : Int) + 1))) (fun i _ => ws.length - (intOf i).toNat)
        case atStart => exact ⟨0, S, Nat.zero_le _, rfl, hkp.mono (by omega)⟩
        case round =>
          clear hkp
          obtain ⟨j, S2, hj, rfl, hkp2⟩ := hrel
          by_cases hjl : j < ws.length
          · have hmul : (j : Int) * ((zs.length : Int) + 1) ≤ 4096 * ((zs.length : Int) + 1) := Int.mul_le_mul_of_nonneg_right (by omega) (by omega)
            have hsucc : ((j + 1 : Nat) : Int) * ((zs.length : Int) + 1) = (j : Int) * ((zs.length : Int) + 1) + ((zs.length : Int) + 1) := by rw [Int.natCast_add, Int.add_mul]; simp
            have Hs : Hid (((j + 1 : Nat) : Int) * ((zs.length : Int) + 1) = (j : Int) * ((zs.length : Int) + 1) + ((zs.length : Int) + 1)) := hsucc
            have h0p : (0 : Int) ≤ (j : Int) * ((zs.length : Int) + 1) := Int.mul_nonneg (by omega) (by omega)
            clear hsucc
            have Hb : Hid (KB + (j : Int) * ((zs.length : Int) + 1) ≤ 105553116266497 + 4096 * ((zs.length : Int) + 1)) := by show _ ≤ _; omega
            clear hmul h0p
            generalize hPB : KB + (j : Int) * ((zs.length : Int) + 1) = PB at hkp2 Hb
            have HPB : Hid (KB + (j : Int) * ((zs.length : Int) + 1) = PB) := hPB
            clear hPB
            have hpb := Hb.out
            clear Hb
            go_wp2_with (go_at_call 14; refine (hkp2.readOwn hB hjl (by omega)).mono ?_; rintro e w4 ⟨bv, er, rfl, hres, S4, hkp4⟩)
            clear hkp2
            go_loopw [13, 14, 15] (fun b e i wx => ∃ (t : Nat) (S3 : St) (er : Int), t ≤ zs.length ∧ i = .int .i64 t ∧ e = .int .i64 er ∧ RdRes w.heap.size wx b er (ws[j]).2 zs ∧ Kp w wx B p mb fv S3 (.slice wa ws.length wc) ws zs (PB + 1 + (t : Int))) (fun _ _ i _ => zs.length - (intOf i).toNat)
            case atStart => exact ⟨0, S4, er, Nat.zero_le _, rfl, rfl, hres, hkp4.mono (by omega)⟩
            case round =>
              clear hkp4 hres
              obtain ⟨t, S3, er3, ht, rfl, rfl, hres3, hkp3⟩ := hrel
              by_cases hgo : t < zs.length ∧ er3 = 13
              · obtain ⟨htl, rfl⟩ := hgo
                go_wp2_with (go_at_call 14; refine (hkp3.readOwn hB hjl (by omega)).mono ?_; rintro e w5 ⟨bv5, er5, rfl, hres5, S5, hkp5⟩)
                go_roundw
                case rel => exact ⟨t + 1, S5, er5, by omega, by go_num, rfl, hres5, hkp5.mono (by omega)⟩
                case measure => simp [intOf]; omega
              · rcases hres3 with ⟨rfl, rfl, hz⟩ | ⟨rfl, g3, cap3, rfl, hrow3⟩
                · have htl : ¬ t < zs.length := fun h => hgo ⟨h, rfl⟩
                  have hz0 : ((zs.length : Int) == 0) = false := by simpa using hz
                  clear hz hgo
                  go_wp2_with fail
                  go_quiet (fail)
                  go_wp2_with fail
                  go_roundw
                  case rel => exact ⟨j + 1, S3, by omega, by go_num, (hkp3.drewN nq).mono (by have h1 := Hs.out; have h2 := HPB.out; omega)⟩
                  case measure => simp [intOf]; omega
                · obtain ⟨hw1, wad, wcc, hwe, hwb⟩ := hkp3.wantAt hjl
                  obtain ⟨gw, rfl⟩ : ∃ gw, wa = some ⟨gw, 0, none⟩ := by
                    rcases hkp3.row.2 with ⟨_, h0⟩ | ⟨gw, cap', cur, hv, _⟩
                    · omega
                    · exact ⟨gw, by cases hv; rfl⟩
                  have hcw : wr.cell? ⟨gw, j, none⟩ = some (.slice (some wad) (ws[j]).2.length wcc) := by
                    rw [hkp3.row.cellAt j (by omega), ← hwe]
                    simp [hjl]
                  have hcv1 : ∀ q, (convert 29 9 (.slice (some ⟨g3, 0, none⟩) (ws[j]).2.length cap3)).run Try.prog (wr.drewN q) = .ok (.string (txt (ws[j]).2)) (wr.drewN q) := fun q => conv_any _ _ _ _ (bytes_row (row_same hrow3 fun _ _ => rfl)) hw1
                  have hcv2 : ∀ q, (convert 29 9 (.slice (some wad) (ws[j]).2.length wcc)).run Try.prog (wr.drewN q) = .ok (.string (txt (ws[j]).2)) (wr.drewN q) := fun q => conv_any _ _ _ _ (fun i hi => hwb i hi) hw1
                  have hj0 : (0 : Int) ≤ (j : Int) := by omega
                  have hj1 : (j : Int) < (ws.length : Int) := by omega
                  generalize (ws[j]).2 = pgj at hcw hcv1 hcv2 hrow3 hw1 hwb
                  clear hgo hwe hwb hrow3
                  by_cases htl : t < zs.length
                  · go_wp2_with fail
                    go_quiet (fail)
                    go_wp2_with fail
                    go_roundw
                    case rel => exact ⟨j + 1, S3, by omega, by go_num, (hkp3.drewN nq).mono (by have h1 := Hs.out; have h2 := HPB.out; omega)⟩
                    case measure => simp [intOf]; omega
                  · go_wp2_with fail
                    go_quiet (fail)
                    go_wp2_with fail
                    go_roundw
                    case rel => exact ⟨j + 1, S3, by omega, by go_num, (hkp3.drewN nq).mono (by have h1 := Hs.out; have h2 := HPB.out; omega)⟩
                    case measure => simp [intOf]; omega
          · go_wp2_with fail
            go_ret
            exact ⟨rfl, hkp2.below⟩
end Go.Proofs.Ytgkijokgkaihoaa
