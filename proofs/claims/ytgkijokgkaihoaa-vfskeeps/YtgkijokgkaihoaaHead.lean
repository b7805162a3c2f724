/-
  The live question that every statement of layer 1 asks first is answered true.
-/
import Derived.Test.YtgkijokgkaihoaaNew
import Derived.Lib.SlBytesConst
namespace Go.Proofs.Ytgkijokgkaihoaa
open Go.RowKit Go.WideMaps Go.Maps

def sA : ByteArray := ⟨#[97]⟩
theorem nmA : nmB ⟨#[97]⟩ = true := by decide
theorem szA : (⟨#[97]⟩ : ByteArray).size ≤ maxLen := by decide

/-- Bytes in a block that was laid just now. -/
theorem bytes_new (w : World) (t : TypeId) (fr : Nat × Nat) (pg : List UInt8) : BytesAt (w.alloc (.cells (pg.map byV).toArray t fr)) ⟨w.heap.size, 0, none⟩ pg := by
  intro i hi
  have hadd : (⟨w.heap.size, 0, none⟩ : Addr).add i = ⟨w.heap.size, i, none⟩ := by unfold Addr.add; split <;> simp_all
  rw [hadd]
  have hn := heap_alloc_new w (.cells (pg.map byV).toArray t fr)
  simp only [World.cell?, hn]
  simp [hi, byV]

set_option maxRecDepth 100000 in
theorem head_any (w : World) : Calls Try.prog 9 #[] w fun e w' => e = .returned (.bool true) ∧ Below w.heap.size w w' := by
  have hcv := fun w C n c => Lib.run_convert_bytes_const (P := Try.prog) w 29 5 C n c Try.underlying29 Try.underlying5
  go_enter Try.func9, Try.ntmps9
  go_wp2_with (go_at_call 10; refine (New_nil 4 _ (by decide) (by decide)).mono ?_; rintro e w1 ⟨p, mb, fv, rfl, h1, b1⟩)
  have h1a := h1.alloc (.cells #[.int .u8 120, .int .u8 121, .int .u8 122] 5 (3, 4))
  refine (Append_ok h1a _ szA _ 3 3 [120, 121, 122] rfl (bytes_new w1 5 (3, 4) [120, 121, 122]) nmA (by omega) (by omega) (by decide) (by decide) (by decide) (by decide)).mono ?_
  rintro e w2 ⟨rfl, ⟨v2, u2, h2⟩, b2⟩
  have b2' := b2.below h1a
  go_wp2_with fail
  have h2a := h2.alloc (.cells #[.int .u8 112, .int .u8 113] 5 (2, 3))
  refine (Append_quota h2a _ szA _ 2 2 nmA (by omega) (by omega) (by simp [putSt, cntSt, newSt]) (by simp [hit, putSt, cntSt, newSt]) (by simp [grw, thr, putSt, cntSt, newSt]) (by simp [putSt, cntSt, newSt])).mono ?_
  rintro e w3 ⟨rfl, h3, b3⟩
  have b3' := b3.below h2a
  go_wp2_with fail
  refine (Size_any h3).mono ?_
  rintro e w4 ⟨rfl, rfl⟩
  have hsz : (cntSt (putSt (cntSt (newSt 4 [])) [97] v2 (u2, [120, 121, 122]))).size = 3 := by simp [putSt, cntSt, newSt]
  rw [hsz]
  have hb : Below w.heap.size w w4 := ((b1.trans ((Below.refl _ _).alloc b1.size _)).trans b2').trans (((Below.refl _ _).alloc (Nat.le_trans b1.size (Nat.le_trans (by simp) b2'.size)) _).trans b3')
  clear hcv b1 b2 b2' b3 b3' h1 h1a h2 h2a h3 hsz
  go_wp2
  go_ret
  exact ⟨rfl, hb⟩
end Go.Proofs.Ytgkijokgkaihoaa
