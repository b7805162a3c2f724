/-
  The number of things, one behind the other: Hash of the program and of the document.
-/
import Derived.Test.YtokkmjcpjjiaaaaDoorEnw
import Derived.Test.YtokkmjcpjjiaaaaDoorTbs
import Derived.Test.YtokkmjcpjjiaaaaDoorOpl
namespace Go.Proofs.YtokkmjcpjjiaaaaDoor
open Go.RowKit
set_option linter.unusedSimpArgs false
set_option linter.unusedVariables false

/-- A thing's bytes. -/
theorem ValsAt.below {w w' : World} {a : Option Addr} {n : Nat} {D : Nat → VV} (h : ValsAt w a n D) (hb : Below w.heap.size w w') : ValsAt w' a n D := by
  rcases h with h | ⟨g, off, e, h⟩
  · exact .inl h
  · exact .inr ⟨g, off, e, fun i hi => (h i hi).below hb⟩
theorem ValsAt.at {w : World} {a : Option Addr} {n : Nat} {D : Nat → VV} (h : ValsAt w a n D) (i : Nat) (hi : i < n) : ∃ g off, a = some ⟨g, off, none⟩ ∧ ValAt w g (off + i * 5) (D i) := by
  rcases h with rfl | ⟨g, off, e, h⟩
  · omega
  · exact ⟨g, off, e, h i hi⟩
def bytesOf (x : VV) : List Int := (encV x.k x.b x.n x.s x.l x.z (rgtB x.k x.b x.n x.s x.l x.z (Lib.validD x.s.data.toList))).map intOf
theorem bytesOf_enc (x : VV) : encV x.k x.b x.n x.s x.l x.z (rgtB x.k x.b x.n x.s x.l x.z (Lib.validD x.s.data.toList)) = (bytesOf x).map (.int .u8) := by
  obtain ⟨zs, h⟩ := encV_ints x.k x.b x.n x.s x.l x.z (rgtB x.k x.b x.n x.s x.l x.z (Lib.validD x.s.data.toList))
  unfold bytesOf
  rw [h]
  simp [intOf, Function.comp_def]
theorem own_slice {w : World} {base : Nat} {v : Value} {n : Nat} {xs : List Value} {e : TypeId} {size : Nat} (h : w.ownsRow base e size v n xs) : ∃ a c, v = .slice a n c := by
  obtain ⟨h1, ⟨h2, h3⟩ | ⟨g, cap, cur, e1, e2, e3, e4⟩⟩ := h
  · exact ⟨none, 0, by rw [h2, h3]⟩
  · exact ⟨_, _, e1⟩
theorem own_at {w : World} {base : Nat} {v : Value} {n : Nat} {xs : List Value} {e : TypeId} (h : w.ownsRow base e 1 v n xs) (i : Nat) (hi : i < n) : ∃ g cap, v = .slice (some ⟨g, 0, none⟩) n cap ∧ w.cell? ⟨g, i, none⟩ = xs[i]? ∧ (∀ j, w.frozen? ⟨g, j, none⟩ = false) ∧ g < w.heap.size ∧ base ≤ g := by
  obtain ⟨h1, ⟨h2, h3⟩ | ⟨g, cap, cur, e1, e2, e3, e4, e5, e6, e7⟩⟩ := h
  · omega
  · refine ⟨g, cap, e1, ?_, fun j => by simp [World.frozen?, e3], (Array.getElem?_eq_some_iff.1 e3).1, e2⟩
    rw [← e7]
    simp only [World.cell?, e3]
    simp [List.getElem?_take, hi]
theorem Enc_of (x : VV) (hl : x.z.length = x.l) (hs : x.s.size ≤ maxLen) (w : World) (q : PathAt w x.p x.z) (t : Tabs w) :
    Calls Tryd.prog 11 #[.agg #[.int .i64 x.k, .bool x.b, .int .i64 x.n, .string x.s, .slice x.p x.l x.c]] w fun e w' => ∃ v, e = .returned v ∧ w'.ownsRow w.heap.size 5 1 v (bytesOf x).length ((bytesOf x).map (.int .u8)) ∧ Below w.heap.size w w' := by
  have h := Encode_any x.k x.b x.n x.s x.p x.l x.c x.z _ hl (rgt_says x.k x.b x.n x.s x.l x.z (Lib.validD x.s.data.toList) hl) w q (fun w' hb => Right_any x.k x.b x.n x.s x.p x.l x.c x.z (Lib.validD x.s.data.toList) w' hl (q.below hb) (valid_any x.s hs w' (t.below hb)))
  rw [bytesOf_enc] at h
  simpa using h
theorem rEnc_of (x : VV) (hl : x.z.length = x.l) (hs : x.s.size ≤ maxLen) (w : World) (q : PathAt w x.p x.z) (t : Tabs w) :
    Calls Tryd.prog 16 #[.agg #[.int .i64 x.k, .bool x.b, .int .i64 x.n, .string x.s, .slice x.p x.l x.c]] w fun e w' => ∃ v, e = .returned v ∧ w'.ownsRow w.heap.size 5 1 v (bytesOf x).length ((bytesOf x).map (.int .u8)) ∧ Below w.heap.size w w' := by
  have h := refEncode_any x.k x.b x.n x.s x.p x.l x.c x.z _ hl (rgt_says x.k x.b x.n x.s x.l x.z (Lib.validD x.s.data.toList) hl) w q (fun w' hb => refRight_any x.k x.b x.n x.s x.p x.l x.c x.z (Lib.validD x.s.data.toList) w' hl (q.below hb) (valid_any x.s hs w' (t.below hb)))
  rw [bytesOf_enc] at h
  simpa using h

/-- One byte more. -/
def hstep (h z : Int) : Int := IntKind.u64.wrap (bits BinOp.xor IntKind.u64 h (IntKind.u64.wrap z) * 1099511628211)
def hfold (h : Int) (zs : List Int) : Int := zs.foldl hstep h
theorem hfold_next (h : Int) (zs : List Int) (q : Nat) (hq : q < zs.length) : hfold h (zs.take (q + 1)) = hstep (hfold h (zs.take q)) (zs.getD q 0) := by
  unfold hfold
  rw [List.take_succ_eq_append_getElem hq, List.foldl_append]
  simp [hq]
/-- The number of the first n things. -/
def hall (D : Nat → VV) : Nat → Int
  | 0 => 14695981039346656037
  | n + 1 => hfold (hall D n) (bytesOf (D n))
theorem hall_zero (D : Nat → VV) : (14695981039346656037 : Int) = hall D 0 := by unfold hall; exact Eq.refl _
theorem own_fits {w : World} {base : Nat} {v : Value} {n : Nat} {xs : List Value} {e : TypeId} {size : Nat} (h : w.ownsRow base e size v n xs) : n ≤ 9223372036854775807 := by
  obtain ⟨h1, ⟨h2, h3⟩ | ⟨g, cap, cur, e1, e2, e3, e4, e5, e6⟩⟩ := h
  · omega
  · unfold maxLen at e5; omega

end Go.Proofs.YtokkmjcpjjiaaaaDoor
