/-
  ParseExpr and Parse: what any text is read as.
-/
import Derived.Test.YtefenbonjepjgaaGreatDoorRea
namespace Go.Proofs.YtefenbonjepjgaaGreatDoor
open Go.ChangeShapes Go.WideShapes Go.ChangeAt Go.RowKit
set_option linter.unusedSimpArgs false
set_option linter.unusedVariables false

theorem res13 {tmps : Array Value} {w : World} {R2 : Nat} {v0 v1 v2 v3 v4 v5 v6 v7 v8 a y : Value} (h2 : tmps.getD 2 undef = .pointer (some ⟨R2, 0, none⟩)) (h3 : tmps.getD 3 undef = a) (h4 : tmps.getD 4 undef = y)
    (c0 : w.cell? ⟨R2, 0, none⟩ = some v0) (c1 : w.cell? ⟨R2, 1, none⟩ = some v1) (c2 : w.cell? ⟨R2, 2, none⟩ = some v2) (c3 : w.cell? ⟨R2, 3, none⟩ = some v3) (c4 : w.cell? ⟨R2, 4, none⟩ = some v4) (c5 : w.cell? ⟨R2, 5, none⟩ = some v5) (c6 : w.cell? ⟨R2, 6, none⟩ = some v6) (c7 : w.cell? ⟨R2, 7, none⟩ = some v7) (c8 : w.cell? ⟨R2, 8, none⟩ = some v8) :
    (results Tryz.f13 tmps).run Tryz.prog w = .ok (.tuple #[.agg #[v0, v1, v2, v3, v4, v5, v6, v7, v8], a, y]) w := by
  have h2' : tmps[2]?.getD undef = .pointer (some ⟨R2, 0, none⟩) := by simpa using h2
  have h3' : tmps[3]?.getD undef = a := by simpa using h3
  have h4' : tmps[4]?.getD undef = y := by simpa using h4
  simp [results, Tryz.results13, h2', h3', h4', go_sem, c0, c1, c2, c3, c4, c5, c6, c7, c8]
set_option maxRecDepth 100000 in
set_option maxHeartbeats 4000000 in
theorem parse13 (s : ByteArray) (hs : s.size ≤ maxLen) (w : World) (hT : Tabs w) :
    Calls Tryz.prog 13 #[.string s] w (Gives w (parseEL s.data.toList) (.agg #[.int .i64 0, .slice none 0 0, .string ⟨#[]⟩, .string ⟨#[]⟩, .int .i64 0, .bool false, .int .i64 0, .string ⟨#[]⟩, .slice none 0 0]) (IsEx w.heap.size)) := by
  have b0 := below_new w (.cells #[.int .i64 0, .slice none 0 0, .string ⟨#[]⟩, .string ⟨#[]⟩, .int .i64 0, .bool false, .int .i64 0, .string ⟨#[]⟩, .slice none 0 0] 40)
  have hE := fun (_ : Unit) => read24 s hs (w.alloc (.cells #[.int .i64 0, .slice none 0 0, .string ⟨#[]⟩, .string ⟨#[]⟩, .int .i64 0, .bool false, .int .i64 0, .string ⟨#[]⟩, .slice none 0 0] 40)) (hT.below b0)
  have B0 := Blk.new w [.int .i64 0, .slice none 0 0, .string ⟨#[]⟩, .string ⟨#[]⟩, .int .i64 0, .bool false, .int .i64 0, .string ⟨#[]⟩, .slice none 0 0] 40
  have hz0 : (w.alloc (.cells #[.int .i64 0, .slice none 0 0, .string ⟨#[]⟩, .string ⟨#[]⟩, .int .i64 0, .bool false, .int .i64 0, .string ⟨#[]⟩, .slice none 0 0] 40)).heap.size = w.heap.size + 1 := by simp
  have oz : Only (fun k => w.heap.size ≤ k) w (w.alloc (.cells #[.int .i64 0, .slice none 0 0, .string ⟨#[]⟩, .string ⟨#[]⟩, .int .i64 0, .bool false, .int .i64 0, .string ⟨#[]⟩, .slice none 0 0] 40)) := Below.only _ b0
  have bz : Below w.heap.size w w := Below.refl _ _
  cases hr : parseEL s.data.toList with
  | bad a1 y1 =>
    rw [hr] at hE
    replace hE : Hid _ := hE
    go_enter Tryz.func13, Tryz.ntmps13
    go_wp2_with ((have hh := hE.out (); go_at_call 24; (with_reducible refine Calls.mono hh ?_); clear hh hE; rintro e w2 ⟨hb, rfl⟩; have B2 := B0.grown hb; have r4 := B2.fr; have q0 : w2.cell? ⟨w.heap.size, 0, none⟩ = some (.int .i64 0) := (B2.c 0 (by decide)); have q1 : w2.cell? ⟨w.heap.size, 1, none⟩ = some (.slice none 0 0) := (B2.c 1 (by decide)); have q2 : w2.cell? ⟨w.heap.size, 2, none⟩ = some (.string ⟨#[]⟩) := (B2.c 2 (by decide)); have q3 : w2.cell? ⟨w.heap.size, 3, none⟩ = some (.string ⟨#[]⟩) := (B2.c 3 (by decide)); have q4 : w2.cell? ⟨w.heap.size, 4, none⟩ = some (.int .i64 0) := (B2.c 4 (by decide)); have q5 : w2.cell? ⟨w.heap.size, 5, none⟩ = some (.bool false) := (B2.c 5 (by decide)); have q6 : w2.cell? ⟨w.heap.size, 6, none⟩ = some (.int .i64 0) := (B2.c 6 (by decide)); have q7 : w2.cell? ⟨w.heap.size, 7, none⟩ = some (.string ⟨#[]⟩) := (B2.c 7 (by decide)); have q8 : w2.cell? ⟨w.heap.size, 8, none⟩ = some (.slice none 0 0) := (B2.c 8 (by decide))))
    have o2 := puto24 ((oz.trans (Below.only (fun k => w.heap.size ≤ k) hb))) (R := w.heap.size) (Nat.le_refl _) (.int .i64 0) (.slice none 0 0) (.string ⟨#[]⟩) (.string ⟨#[]⟩) (.int .i64 0) (.bool false) (.int .i64 0) (.string ⟨#[]⟩) (.slice none 0 0)
    have G4 := put24 B2 (.int .i64 0) (.slice none 0 0) (.string ⟨#[]⟩) (.string ⟨#[]⟩) (.int .i64 0) (.bool false) (.int .i64 0) (.string ⟨#[]⟩) (.slice none 0 0)
    exact ⟨rfl, .tuple #[.agg #[.int .i64 0, .slice none 0 0, .string ⟨#[]⟩, .string ⟨#[]⟩, .int .i64 0, .bool false, .int .i64 0, .string ⟨#[]⟩, .slice none 0 0], .int .i64 a1, .int .i64 y1], res13 (R2 := w.heap.size) rfl rfl rfl (G4.c 0 (by decide)) (G4.c 1 (by decide)) (G4.c 2 (by decide)) (G4.c 3 (by decide)) (G4.c 4 (by decide)) (G4.c 5 (by decide)) (G4.c 6 (by decide)) (G4.c 7 (by decide)) (G4.c 8 (by decide)), Below.by_only bz (Nat.le_refl _) o2 (fun k hk => hk), rfl⟩
  | ok x M =>
    rw [hr] at hE
    replace hE : Hid _ := hE
    go_enter Tryz.func13, Tryz.ntmps13
    go_wp2_with ((have hh := hE.out (); go_at_call 24; (with_reducible refine Calls.mono hh ?_); clear hh hE; rintro e w2 ⟨hb, v, rfl, sp, sn, sc, rfl, hx⟩; skip; replace hx : Hid _ := hx; have B2 := B0.grown hb; have r4 := B2.fr; have q0 : w2.cell? ⟨w.heap.size, 0, none⟩ = some (.int .i64 0) := (B2.c 0 (by decide)); have q1 : w2.cell? ⟨w.heap.size, 1, none⟩ = some (.slice none 0 0) := (B2.c 1 (by decide)); have q2 : w2.cell? ⟨w.heap.size, 2, none⟩ = some (.string ⟨#[]⟩) := (B2.c 2 (by decide)); have q3 : w2.cell? ⟨w.heap.size, 3, none⟩ = some (.string ⟨#[]⟩) := (B2.c 3 (by decide)); have q4 : w2.cell? ⟨w.heap.size, 4, none⟩ = some (.int .i64 0) := (B2.c 4 (by decide)); have q5 : w2.cell? ⟨w.heap.size, 5, none⟩ = some (.bool false) := (B2.c 5 (by decide)); have q6 : w2.cell? ⟨w.heap.size, 6, none⟩ = some (.int .i64 0) := (B2.c 6 (by decide)); have q7 : w2.cell? ⟨w.heap.size, 7, none⟩ = some (.string ⟨#[]⟩) := (B2.c 7 (by decide)); have q8 : w2.cell? ⟨w.heap.size, 8, none⟩ = some (.slice none 0 0) := (B2.c 8 (by decide))))
    have o1 := puto24 (Only.refl (fun k => k = w.heap.size) w2) (R := w.heap.size) rfl (.int .i64 (opE x)) (.slice sp sn sc) (.string (txt (nmE x))) (.string (txt (prE x))) (.int .i64 (kE x)) (.bool (bE x)) (.int .i64 (nE x)) (.string (txt (tE x))) (.slice none 0 0)
    have o2 := puto24 ((oz.trans (Below.only (fun k => w.heap.size ≤ k) hb))) (R := w.heap.size) (Nat.le_refl _) (.int .i64 (opE x)) (.slice sp sn sc) (.string (txt (nmE x))) (.string (txt (prE x))) (.int .i64 (kE x)) (.bool (bE x)) (.int .i64 (nE x)) (.string (txt (tE x))) (.slice none 0 0)
    have G4 := put24 B2 (.int .i64 (opE x)) (.slice sp sn sc) (.string (txt (nmE x))) (.string (txt (prE x))) (.int .i64 (kE x)) (.bool (bE x)) (.int .i64 (nE x)) (.string (txt (tE x))) (.slice none 0 0)
    have keep : ∀ g, (w.alloc (.cells #[.int .i64 0, .slice none 0 0, .string ⟨#[]⟩, .string ⟨#[]⟩, .int .i64 0, .bool false, .int .i64 0, .string ⟨#[]⟩, .slice none 0 0] 40)).heap.size ≤ g → g < w2.heap.size → ((((((((((w2.setCell ⟨w.heap.size, 0, none⟩ (.int .i64 (opE x))).setCell ⟨w.heap.size, 1, none⟩ (.slice sp sn sc)).setCell ⟨w.heap.size, 2, none⟩ (.string (txt (nmE x)))).setCell ⟨w.heap.size, 3, none⟩ (.string (txt (prE x)))).setCell ⟨w.heap.size, 4, none⟩ (.int .i64 (kE x))).setCell ⟨w.heap.size, 5, none⟩ (.bool (bE x))).setCell ⟨w.heap.size, 6, none⟩ (.int .i64 (nE x))).setCell ⟨w.heap.size, 7, none⟩ (.string (txt (tE x)))).setCell ⟨w.heap.size, 8, none⟩ (.slice none 0 0))).heap[g]? = w2.heap[g]? := fun g hg hl => o1.block g hl (fun h => by omega)
    have weak : ∀ g, (w.alloc (.cells #[.int .i64 0, .slice none 0 0, .string ⟨#[]⟩, .string ⟨#[]⟩, .int .i64 0, .bool false, .int .i64 0, .string ⟨#[]⟩, .slice none 0 0] 40)).heap.size ≤ g → w.heap.size ≤ g := fun g hg => by omega
    exact ⟨rfl, .tuple #[.agg #[.int .i64 (opE x), .slice sp sn sc, .string (txt (nmE x)), .string (txt (prE x)), .int .i64 (kE x), .bool (bE x), .int .i64 (nE x), .string (txt (tE x)), .slice none 0 0], .int .i64 0, .int .i64 0], res13 (R2 := w.heap.size) rfl rfl rfl (G4.c 0 (by simp)) (G4.c 1 (by simp)) (G4.c 2 (by simp)) (G4.c 3 (by simp)) (G4.c 4 (by simp)) (G4.c 5 (by simp)) (G4.c 6 (by simp)) (G4.c 7 (by simp)) (G4.c 8 (by simp)), Below.by_only bz (Nat.le_refl _) o2 (fun k hk => hk), _, rfl, _, _, _, rfl, ExAt.weakS weak _ _ (ExAt.same keep _ _ hx.out)⟩

theorem res10 {tmps : Array Value} {w : World} {R2 : Nat} {v0 v1 v2 v3 v4 v5 a y : Value} (h2 : tmps.getD 2 undef = .pointer (some ⟨R2, 0, none⟩)) (h3 : tmps.getD 3 undef = a) (h4 : tmps.getD 4 undef = y)
    (c0 : w.cell? ⟨R2, 0, none⟩ = some v0) (c1 : w.cell? ⟨R2, 1, none⟩ = some v1) (c2 : w.cell? ⟨R2, 2, none⟩ = some v2) (c3 : w.cell? ⟨R2, 3, none⟩ = some v3) (c4 : w.cell? ⟨R2, 4, none⟩ = some v4) (c5 : w.cell? ⟨R2, 5, none⟩ = some v5) :
    (results Tryz.f10 tmps).run Tryz.prog w = .ok (.tuple #[.agg #[v0, v1, v2, v3, v4, v5], a, y]) w := by
  have h2' : tmps[2]?.getD undef = .pointer (some ⟨R2, 0, none⟩) := by simpa using h2
  have h3' : tmps[3]?.getD undef = a := by simpa using h3
  have h4' : tmps[4]?.getD undef = y := by simpa using h4
  simp [results, Tryz.results10, h2', h3', h4', go_sem, c0, c1, c2, c3, c4, c5]
set_option maxRecDepth 100000 in
set_option maxHeartbeats 4000000 in
theorem parse10 (s : ByteArray) (hs : s.size ≤ maxLen) (w : World) (hT : Tabs w) :
    Calls Tryz.prog 10 #[.string s] w (Gives w (parseL s.data.toList) (.agg #[.slice none 0 0, .slice none 0 0, .bool false, .slice none 0 0, .slice none 0 0, .int .i64 0]) (IsQ w.heap.size)) := by
  have b0 := below_new w (.cells #[.slice none 0 0, .slice none 0 0, .bool false, .slice none 0 0, .slice none 0 0, .int .i64 0] 28)
  have hE := fun (_ : Unit) => read18 s hs (w.alloc (.cells #[.slice none 0 0, .slice none 0 0, .bool false, .slice none 0 0, .slice none 0 0, .int .i64 0] 28)) (hT.below b0)
  have B0 := Blk.new w [.slice none 0 0, .slice none 0 0, .bool false, .slice none 0 0, .slice none 0 0, .int .i64 0] 28
  have hz0 : (w.alloc (.cells #[.slice none 0 0, .slice none 0 0, .bool false, .slice none 0 0, .slice none 0 0, .int .i64 0] 28)).heap.size = w.heap.size + 1 := by simp
  have oz : Only (fun k => w.heap.size ≤ k) w (w.alloc (.cells #[.slice none 0 0, .slice none 0 0, .bool false, .slice none 0 0, .slice none 0 0, .int .i64 0] 28)) := Below.only _ b0
  have bz : Below w.heap.size w w := Below.refl _ _
  cases hr : parseL s.data.toList with
  | bad a1 y1 =>
    rw [hr] at hE
    replace hE : Hid _ := hE
    go_enter Tryz.func10, Tryz.ntmps10
    go_wp2_with ((have hh := hE.out (); go_at_call 18; (with_reducible refine Calls.mono hh ?_); clear hh hE; rintro e w2 ⟨hb, rfl⟩; have B2 := B0.grown hb; have r4 := B2.fr; have q0 : w2.cell? ⟨w.heap.size, 0, none⟩ = some (.slice none 0 0) := (B2.c 0 (by decide)); have q1 : w2.cell? ⟨w.heap.size, 1, none⟩ = some (.slice none 0 0) := (B2.c 1 (by decide)); have q2 : w2.cell? ⟨w.heap.size, 2, none⟩ = some (.bool false) := (B2.c 2 (by decide)); have q3 : w2.cell? ⟨w.heap.size, 3, none⟩ = some (.slice none 0 0) := (B2.c 3 (by decide)); have q4 : w2.cell? ⟨w.heap.size, 4, none⟩ = some (.slice none 0 0) := (B2.c 4 (by decide)); have q5 : w2.cell? ⟨w.heap.size, 5, none⟩ = some (.int .i64 0) := (B2.c 5 (by decide))))
    have o2 := puto18 ((oz.trans (Below.only (fun k => w.heap.size ≤ k) hb))) (R := w.heap.size) (Nat.le_refl _) (.slice none 0 0) (.slice none 0 0) (.bool false) (.slice none 0 0) (.slice none 0 0) (.int .i64 0)
    have G4 := put18 B2 (.slice none 0 0) (.slice none 0 0) (.bool false) (.slice none 0 0) (.slice none 0 0) (.int .i64 0)
    exact ⟨rfl, .tuple #[.agg #[.slice none 0 0, .slice none 0 0, .bool false, .slice none 0 0, .slice none 0 0, .int .i64 0], .int .i64 a1, .int .i64 y1], res10 (R2 := w.heap.size) rfl rfl rfl (G4.c 0 (by decide)) (G4.c 1 (by decide)) (G4.c 2 (by decide)) (G4.c 3 (by decide)) (G4.c 4 (by decide)) (G4.c 5 (by decide)), Below.by_only bz (Nat.le_refl _) o2 (fun k hk => hk), rfl⟩
  | ok x M =>
    rw [hr] at hE
    replace hE : Hid _ := hE
    go_enter Tryz.func10, Tryz.ntmps10
    go_wp2_with ((have hh := hE.out (); go_at_call 18; (with_reducible refine Calls.mono hh ?_); clear hh hE; rintro e w2 ⟨hb, v, rfl, v0, v1, v3, v4, rfl, hx0, hx1, hx3, hx4⟩; obtain ⟨p0, c0, rfl⟩ := hx0.val; obtain ⟨p1, c1, rfl⟩ := hx1.val; obtain ⟨p3, c3, rfl⟩ := hx3.val; obtain ⟨p4, c4, rfl⟩ := hx4.val; have hx := And.intro hx0 (And.intro hx1 (And.intro hx3 hx4)); clear hx0 hx1 hx3 hx4; replace hx : Hid _ := hx; have B2 := B0.grown hb; have r4 := B2.fr; have q0 : w2.cell? ⟨w.heap.size, 0, none⟩ = some (.slice none 0 0) := (B2.c 0 (by decide)); have q1 : w2.cell? ⟨w.heap.size, 1, none⟩ = some (.slice none 0 0) := (B2.c 1 (by decide)); have q2 : w2.cell? ⟨w.heap.size, 2, none⟩ = some (.bool false) := (B2.c 2 (by decide)); have q3 : w2.cell? ⟨w.heap.size, 3, none⟩ = some (.slice none 0 0) := (B2.c 3 (by decide)); have q4 : w2.cell? ⟨w.heap.size, 4, none⟩ = some (.slice none 0 0) := (B2.c 4 (by decide)); have q5 : w2.cell? ⟨w.heap.size, 5, none⟩ = some (.int .i64 0) := (B2.c 5 (by decide))))
    have o1 := puto18 (Only.refl (fun k => k = w.heap.size) w2) (R := w.heap.size) rfl (.slice p0 x.pats.length c0) (.slice p1 x.where'.length c1) (.bool x.dist) (.slice p3 x.items.length c3) (.slice p4 x.keys.length c4) (.int .i64 x.lim)
    have o2 := puto18 ((oz.trans (Below.only (fun k => w.heap.size ≤ k) hb))) (R := w.heap.size) (Nat.le_refl _) (.slice p0 x.pats.length c0) (.slice p1 x.where'.length c1) (.bool x.dist) (.slice p3 x.items.length c3) (.slice p4 x.keys.length c4) (.int .i64 x.lim)
    have G4 := put18 B2 (.slice p0 x.pats.length c0) (.slice p1 x.where'.length c1) (.bool x.dist) (.slice p3 x.items.length c3) (.slice p4 x.keys.length c4) (.int .i64 x.lim)
    have keep : ∀ g, (w.alloc (.cells #[.slice none 0 0, .slice none 0 0, .bool false, .slice none 0 0, .slice none 0 0, .int .i64 0] 28)).heap.size ≤ g → g < w2.heap.size → (((((((w2.setCell ⟨w.heap.size, 0, none⟩ (.slice p0 x.pats.length c0)).setCell ⟨w.heap.size, 1, none⟩ (.slice p1 x.where'.length c1)).setCell ⟨w.heap.size, 2, none⟩ (.bool x.dist)).setCell ⟨w.heap.size, 3, none⟩ (.slice p3 x.items.length c3)).setCell ⟨w.heap.size, 4, none⟩ (.slice p4 x.keys.length c4)).setCell ⟨w.heap.size, 5, none⟩ (.int .i64 x.lim))).heap[g]? = w2.heap[g]? := fun g hg hl => o1.block g hl (fun h => by omega)
    have weak : ∀ g, (w.alloc (.cells #[.slice none 0 0, .slice none 0 0, .bool false, .slice none 0 0, .slice none 0 0, .int .i64 0] 28)).heap.size ≤ g → w.heap.size ≤ g := fun g hg => by omega
    exact ⟨rfl, .tuple #[.agg #[.slice p0 x.pats.length c0, .slice p1 x.where'.length c1, .bool x.dist, .slice p3 x.items.length c3, .slice p4 x.keys.length c4, .int .i64 x.lim], .int .i64 0, .int .i64 0], res10 (R2 := w.heap.size) rfl rfl rfl (G4.c 0 (by simp)) (G4.c 1 (by simp)) (G4.c 2 (by simp)) (G4.c 3 (by simp)) (G4.c 4 (by simp)) (G4.c 5 (by simp)), Below.by_only bz (Nat.le_refl _) o2 (fun k hk => hk), _, rfl, _, _, _, _, rfl, (hx.out.1.keep keep).weak weak, (hx.out.2.1.keep keep).weak weak, (hx.out.2.2.1.keep keep).weak weak, (hx.out.2.2.2.keep keep).weak weak⟩
end Go.Proofs.YtefenbonjepjgaaGreatDoor
