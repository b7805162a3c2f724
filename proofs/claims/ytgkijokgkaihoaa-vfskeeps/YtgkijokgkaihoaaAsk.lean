/-
  Asking a file system: how many pages a file has, whether it may grow, how many bytes and calls there are.
-/
import Derived.Test.YtgkijokgkaihoaaCnt
namespace Go.Proofs.Ytgkijokgkaihoaa
open Go.RowKit Go.WideMaps Go.Maps
theorem law9 : Keyed Try.prog 9 := string_keyed Try.underlying9
theorem zero40 (w : World) : (zeroValue 40).run Try.prog w = .ok (.slice none 0 0) w := by kernel_rfl
section
variable {w : World} {base p mb : Nat} {fv : Value} {S : St}

/-- Is there such a file? -/
def thr (S : St) (s : List UInt8) : Bool := !(S.C s).isEmpty
/-- May it have a page more? -/
def grw (S : St) (s : List UInt8) : Bool := if thr S s then decide ((S.C s).length < 4096) else decide (Maps.size S.D < 256)

theorem look_of {D : DataW Value} {s : List UInt8} {v : Value} {ps : List MemPlace} (h : heldR v = some (D.atKey (.string s) (.held (.slice none 0 0)), ps)) : look D s = v := by
  simp only [heldR, Option.some.injEq, Prod.mk.injEq] at h
  unfold look
  rw [← h.1]

theorem FsAt.lookup (h : FsAt w base p mb fv S) (s : ByteArray) (hs : s.size ≤ maxLen) :
    (Instr.lookup 52 (.map (some mb)) (.string s) false).run Try.prog w = .ok (look S.D s.data.toList) w := by
  obtain ⟨v, ps, hr, hv⟩ := h.map.lookup law9 Try.underlying52 (zero40 w) (zd := .held (.slice none 0 0)) (zp := []) rfl (keyOf_string_mk Try.underlying9 hs)
  rw [hr, look_of hv]

theorem FsAt.lookupOk (h : FsAt w base p mb fv S) (s : ByteArray) (hs : s.size ≤ maxLen) :
    (Instr.lookup 52 (.map (some mb)) (.string s) true).run Try.prog w = .ok (.tuple #[look S.D s.data.toList, .bool (thr S s.data.toList)]) w := by
  obtain ⟨v, ps, hr, hv⟩ := h.map.look_ok law9 Try.underlying52 (zero40 w) (zd := .held (.slice none 0 0)) (zp := []) rfl (keyOf_string_mk Try.underlying9 hs)
  rw [hr, look_of hv, h.has]
  rfl

theorem FsAt.form (h : FsAt w base p mb fv S) (s : List UInt8) : ∃ av cap, look S.D s = .slice av (S.C s).length cap := by
  rcases (h.pgs s).1.2 with ⟨hv, h0⟩ | ⟨g, cap, cur, hv, _⟩
  · exact ⟨none, 0, by rw [hv, h0]⟩
  · exact ⟨some ⟨g, 0, none⟩, cap, hv⟩

set_option maxRecDepth 100000 in
theorem mayGrow_any (h : FsAt w base p mb fv S) (s : ByteArray) (hs : s.size ≤ maxLen) :
    Calls Try.prog 29 #[.pointer (some ⟨p, 0, none⟩), .string s] w fun e w' => e = .returned (.bool (grw S s.data.toList)) ∧ w' = w := by
  have c0 : w.cell? ⟨p, 0, none⟩ = some (.map (some mb)) := h.cell 0
  have hl := h.lookupOk s hs
  obtain ⟨av, cap, hf⟩ := h.form s.data.toList
  rw [hf] at hl
  have hlen := fun ty => h.map.len Try.underlying52 ty
  unfold grw
  cases ht : thr S s.data.toList
  all_goals
    rw [ht] at hl
    clear ht hf
    go_enter Try.func29, Try.ntmps29
    go_wp2
    go_ret
    exact ⟨by simp; omega, rfl⟩

theorem Pages_any (h : FsAt w base p mb fv S) (s : ByteArray) (hs : s.size ≤ maxLen) :
    Calls Try.prog 19 #[.pointer (some ⟨p, 0, none⟩), .string s] w fun e w' => e = .returned (.int .i64 ((S.C s.data.toList).length : Nat)) ∧ w' = w := by
  have c0 : w.cell? ⟨p, 0, none⟩ = some (.map (some mb)) := h.cell 0
  have hl := h.lookup s hs
  obtain ⟨av, cap, hf⟩ := h.form s.data.toList
  rw [hf] at hl
  clear hf
  go_enter Try.func19, Try.ntmps19
  go_wp2
  go_ret
  exact ⟨rfl, rfl⟩

theorem Size_any (h : FsAt w base p mb fv S) :
    Calls Try.prog 21 #[.pointer (some ⟨p, 0, none⟩)] w fun e w' => e = .returned (.int .i64 S.size) ∧ w' = w := by
  have c2 : w.cell? ⟨p, 2, none⟩ = some (.int .i64 S.size) := h.cell 2
  go_enter Try.func21, Try.ntmps21
  go_wp2
  go_ret
  exact ⟨rfl, rfl⟩
theorem Calls_any (h : FsAt w base p mb fv S) :
    Calls Try.prog 24 #[.pointer (some ⟨p, 0, none⟩)] w fun e w' => e = .returned (.int .i64 S.calls) ∧ w' = w := by
  have c2 : w.cell? ⟨p, 3, none⟩ = some (.int .i64 S.calls) := h.cell 3
  go_enter Try.func24, Try.ntmps24
  go_wp2
  go_ret
  exact ⟨rfl, rfl⟩
theorem Failed_any (h : FsAt w base p mb fv S) :
    Calls Try.prog 23 #[.pointer (some ⟨p, 0, none⟩)] w fun e w' => e = .returned (.bool S.failed) ∧ w' = w := by
  have c2 : w.cell? ⟨p, 5, none⟩ = some (.bool S.failed) := h.cell 5
  go_enter Try.func23, Try.ntmps23
  go_wp2
  go_ret
  exact ⟨rfl, rfl⟩
end
end Go.Proofs.Ytgkijokgkaihoaa
