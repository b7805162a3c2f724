/-
  A pattern's text of any names: its words, and what it is read as.
  A pattern's text: the tree in memory that Parse makes of it; the text as the law builds it.
-/
import Derived.Test.YtefenbonjepjgaaGreatDoorEra
import Derived.Test.YtefenbonjepjgaaGreatDoorTbs
import Derived.Test.YtefenbonjepjgaaGreatDoorSap
namespace Go.Proofs.YtefenbonjepjgaaGreatDoor
open Go.Lib
set_option linter.unusedSimpArgs false
set_option linter.unusedVariables false

/-- A name, and nothing else. -/
structure NameOf (v : List UInt8) : Prop where
  ne : v ≠ []
  word : wordL v = ⟨1, v, 0, v.length, 0⟩
  blank : blankB (decodeL v).1 = false
  way : wordL v = nameW v
  rune : ¬ (decodeL v).1 = 39 ∧ digB (decodeL v).1 = false ∧ runeB true (decodeL v).1 = true
  span : spanL (runeB false) v = v.length
theorem nameW_k1 (l : List UInt8) (he : (nameW l).e = 0) (hk : (nameW l).k = 1) : nameW l = ⟨1, l.take (spanL (runeB false) l), 0, spanL (runeB false) l, 0⟩ := by
  unfold nameW at he hk ⊢
  split
  · rename_i h
    rw [if_pos h] at hk
    exact absurd hk (by simp)
  · rename_i h
    rw [if_neg h] at he
    split
    · rename_i h2
      rw [if_pos h2] at he
      exact absurd he (by simp [bad])
    · rfl
theorem word_k1 (l : List UInt8) (he : (wordL l).e = 0) (hk : (wordL l).k = 1) : wordL l = nameW l ∧ ¬ (decodeL l).1 = 39 ∧ digB (decodeL l).1 = false ∧ runeB true (decodeL l).1 = true := by
  unfold wordL at he hk ⊢
  split
  · rename_i h
    rw [if_pos h] at hk
    unfold textW at hk
    split at hk
    · exact absurd hk (by simp [bad])
    · exact absurd hk (by simp)
  · rename_i h39
    rw [if_neg h39] at hk
    split
    · rename_i h
      rw [if_pos h] at hk
      unfold numW at hk
      split at hk
      · exact absurd hk (by simp)
      · exact absurd hk (by simp [bad])
    · rename_i hd
      rw [if_neg hd] at hk
      split
      · rename_i hr
        exact ⟨rfl, h39, by simpa using hd, hr⟩
      · rename_i hr
        rw [if_neg hr] at hk
        unfold signW at hk
        split at hk
        · exact absurd hk (by simp [bad])
        · exact absurd hk (by simp)
theorem lxs_first {p : Nat} {l : List UInt8} {t : Tk} {L : List Tk} (hc : Lxs p l (t :: L)) (hp : t.at' = p) : l ≠ [] ∧ blankB (decodeL l).1 = false ∧ (wordL l).e = 0 ∧ t = tkL (wordL l) p := by
  generalize hM : t :: L = M at hc
  cases hc with
  | nil => cases hM
  | blank _ _ _ hne h r =>
    subst hM
    have := (r.ge t (List.mem_cons_self ..)).1
    omega
  | word _ _ L' hne h he r =>
    injection hM with h1 h2
    exact ⟨hne, h, he, h1⟩
theorem name_of {v : List UInt8} {t : Tk} (h1 : (lexL v).2.2 = 0) (h2 : (lexL v).1 = [t]) (h3 : t.k = 1) (h4 : t.t = v) : NameOf v := by
  obtain ⟨_, hx⟩ := lexL_lxs h1
  rw [h2] at hx
  have hlt := (hx.ge t (List.mem_cons_self ..)).2
  rw [Nat.zero_add] at hlt
  have hc := (hx.cut 0 t rfl).2.2
  rw [Nat.sub_zero, List.drop_zero] at hc
  obtain ⟨hne, h, he, hT⟩ : v.drop t.at' ≠ [] ∧ blankB (decodeL (v.drop t.at')).1 = false ∧ (wordL (v.drop t.at')).e = 0 ∧ t = tkL (wordL (v.drop t.at')) t.at' := lxs_first hc rfl
  · have hk : (wordL (v.drop t.at')).k = 1 := (congrArg Tk.k hT).symm.trans h3
    obtain ⟨k1, k2, k3, k4⟩ := word_k1 _ he hk
    have hn := nameW_k1 _ (by rw [← k1]; exact he) (by rw [← k1]; exact hk)
    have ht : (v.drop t.at').take (spanL (runeB false) (v.drop t.at')) = v := by
      have : (wordL (v.drop t.at')).t = v := (congrArg Tk.t hT).symm.trans h4
      rw [k1, hn] at this
      exact this
    have hl := congrArg List.length ht
    rw [List.length_take, List.length_drop] at hl
    have h0 : t.at' = 0 := by omega
    rw [h0, List.drop_zero] at k1 k2 k3 k4 hn ht hl h hne
    have hs : spanL (runeB false) v = v.length := by
      have := spanL_le (runeB false) _ v (Nat.le_refl _)
      omega
    refine ⟨hne, ?_, h, k1, ⟨k2, k3, k4⟩, hs⟩
    rw [k1, hn, hs, List.take_length]
theorem name_more {v : List UInt8} (h : NameOf v) (b : UInt8) (t : List UInt8) (hb : b.toNat < 128) (hr : runeB false (b.toNat : Int) = false) : wordL (v ++ b :: t) = ⟨1, v, 0, v.length, 0⟩ := by
  have hd := decode_more v b t h.ne hb
  have hs := span_more (runeB false) b t hb hr _ v (Nat.le_refl _)
  have hw := h.way.symm.trans h.word
  unfold wordL
  rw [hd, if_neg h.rune.1, if_neg (by rw [h.rune.2.1]; decide), if_pos h.rune.2.2]
  unfold nameW at hw ⊢
  rw [hs, List.take_append_of_le_length (by rw [h.span]; exact Nat.le_refl _)]
  exact hw
theorem lx_name {v : List UInt8} (h : NameOf v) (b : UInt8) (t : List UInt8) (hb : b.toNat < 128) (hr : runeB false (b.toNat : Int) = false) {at' : Nat} {L : List Tk} (hl : Lxs (at' + v.length) (b :: t) L) : Lxs at' (v ++ b :: t) (⟨1, v, 0, at'⟩ :: L) := by
  have hw := name_more h b t hb hr
  have := Lxs.word at' (v ++ b :: t) L (by simp) (by rw [decode_more v b t h.ne hb]; exact h.blank) (by rw [hw]) (by rw [hw]; show Lxs _ ((v ++ b :: t).drop v.length) L; rw [List.drop_left]; exact hl)
  rw [hw] at this
  exact this
theorem lx_last {v : List UInt8} (h : NameOf v) (at' : Nat) : Lxs at' v [⟨1, v, 0, at'⟩] := by
  have hw := h.word
  have := Lxs.word at' v [] h.ne h.blank (by rw [hw]) (by rw [hw]; show Lxs _ (v.drop v.length) []; rw [List.drop_length]; exact .nil _)
  rw [hw] at this
  exact this
theorem lx_blank (at' : Nat) (t : List UInt8) {L : List Tk} (hl : Lxs (at' + 1) t L) : Lxs at' (32 :: t) L :=
  .blank _ _ _ (by simp) (by rw [decodeL_low 32 t (by decide)]; decide) hl
theorem word_sg (b : UInt8) (t : List UInt8) (hb : b.toNat < 128) (h1 : ¬ ((b.toNat : Nat) : Int) = 39) (h2 : digB (b.toNat : Int) = false) (h3 : runeB true (b.toNat : Int) = false) : wordL (b :: t) = signW (b :: t) := by
  unfold wordL
  rw [decodeL_low b t hb]
  dsimp only
  rw [if_neg (by omega), if_neg (by rw [h2]; decide), if_neg (by rw [h3]; decide)]
theorem lx_sign (b : UInt8) (g t : List UInt8) (at' : Nat) {L : List Tk} (hb : b.toNat < 128 ∧ ¬ ((b.toNat : Nat) : Int) = 39 ∧ digB (b.toNat : Int) = false ∧ runeB true (b.toNat : Int) = false ∧ blankB (b.toNat : Int) = false) (hs : signL (b :: g ++ t) = b :: g) (hl : Lxs (at' + (g.length + 1)) t L) : Lxs at' (b :: g ++ t) (⟨5, b :: g, 0, at'⟩ :: L) := by
  have hw : wordL (b :: g ++ t) = ⟨5, b :: g, 0, g.length + 1, 0⟩ := by
    rw [List.cons_append, word_sg b (g ++ t) hb.1 hb.2.1 hb.2.2.1 hb.2.2.2.1]
    unfold signW
    rw [← List.cons_append, hs, if_neg (by simp)]
    rfl
  have := Lxs.word at' (b :: g ++ t) L (by simp) (by rw [List.cons_append, decodeL_low b _ hb.1]; exact hb.2.2.2.2) (by rw [hw]) (by rw [hw]; show Lxs _ ((b :: g ++ t).drop (b :: g).length) L; rw [List.drop_left]; exact hl)
  rw [hw] at this
  exact this
theorem lx_digit (n : Nat) (hn : n < 9) (b : UInt8) (t : List UInt8) (hb : b.toNat < 128) (hd : digB (b.toNat : Int) = false) (at' : Nat) {L : List Tk} (hl : Lxs (at' + 1) (b :: t) L) : Lxs at' (UInt8.ofNat (48 + n) :: b :: t) (⟨3, [], n, at'⟩ :: L) := by
  have hN : (UInt8.ofNat (48 + n)).toNat = 48 + n := toB _ (by omega)
  have hlow : (UInt8.ofNat (48 + n)).toNat < 128 := by omega
  have hdg : digB ((UInt8.ofNat (48 + n)).toNat : Int) = true := by rw [hN, digB_t]; omega
  have hsp : spanL digB (UInt8.ofNat (48 + n) :: b :: t) = 1 := by
    have := span_more digB b t hb hd _ [UInt8.ofNat (48 + n)] (Nat.le_refl _)
    rw [show ([UInt8.ofNat (48 + n)] ++ b :: t) = UInt8.ofNat (48 + n) :: b :: t from rfl] at this
    rw [this, spanL_step _ _ (by simp), decodeL_low _ _ hlow]
    dsimp only
    rw [if_pos hdg]
    rfl
  have hw : wordL (UInt8.ofNat (48 + n) :: b :: t) = ⟨3, [], n, 1, 0⟩ := by
    unfold wordL
    rw [decodeL_low _ _ hlow]
    dsimp only
    rw [if_neg (by rw [hN]; omega), if_pos hdg]
    unfold numW
    rw [hsp]
    have : numFrom 0 ((UInt8.ofNat (48 + n) :: b :: t).take 1) = n := by
      show 10 * 0 + ((UInt8.ofNat (48 + n)).toNat - 48) = n
      rw [hN]
      omega
    rw [this, if_pos (by unfold maxI; omega)]
  have := Lxs.word at' (UInt8.ofNat (48 + n) :: b :: t) L (by simp) (by
      rw [decodeL_low _ _ hlow]
      cases hbk : blankB ((UInt8.ofNat (48 + n)).toNat : Int) with
      | false => rfl
      | true => rw [hN, blankB_t] at hbk; omega) (by rw [hw]) (by rw [hw]; exact hl)
  rw [hw] at this
  exact this
theorem lx_key (K : List UInt8) (t : List UInt8) (at' : Nat) {L : List Tk} (hne : K ≠ []) (hb : blankB (decodeL K).1 = false) (hw : wordL K = ⟨2, K, 0, K.length, 0⟩) (hl : Lxs (at' + K.length) (32 :: t) L) : Lxs at' (K ++ 32 :: t) (⟨2, K, 0, at'⟩ :: L) := by
  have h1 := word_more K t hne (by rw [hw])
  rw [hw] at h1
  have := Lxs.word at' (K ++ 32 :: t) L (by simp) (by rw [decode_more K 32 t hne (by decide)]; exact hb) (by rw [h1]) (by rw [h1]; show Lxs _ ((K ++ 32 :: t).drop K.length) L; rw [List.drop_left]; exact hl)
  rw [h1] at this
  exact this
/-- The edge between its two signs. -/
def bodT (edge label : List UInt8) (n m : Nat) (t : List UInt8) : List UInt8 := 91 :: (edge ++ 58 :: (label ++ 42 :: UInt8.ofNat (48 + n) :: 46 :: 46 :: UInt8.ofNat (48 + m) :: 93 :: t))
def endT (v : List UInt8) : List UInt8 := 40 :: 41 :: 32 :: ([82, 69, 84, 85, 82, 78] ++ 32 :: v)
def edgT (edge label : List UInt8) (back : Bool) (n m : Nat) (t : List UInt8) : List UInt8 := if back then 60 :: 45 :: bodT edge label n m (45 :: t) else 45 :: bodT edge label n m (45 :: 62 :: t)
def patT (v label edge : List UInt8) (back : Bool) (n m : Nat) : List UInt8 := [77, 65, 84, 67, 72] ++ 32 :: 40 :: (v ++ 58 :: (label ++ 41 :: edgT edge label back n m (endT v)))
def bw (k : Int) (t : List UInt8) (n : Int) : Tk := ⟨k, t, n, 0⟩
def bodW (edge label : List UInt8) (n m : Nat) (L : List Tk) : List Tk := bw 5 [91] 0 :: bw 1 edge 0 :: bw 5 [58] 0 :: bw 1 label 0 :: bw 5 [42] 0 :: bw 3 [] n :: bw 5 [46, 46] 0 :: bw 3 [] m :: bw 5 [93] 0 :: L
def endW (v : List UInt8) : List Tk := [bw 5 [40] 0, bw 5 [41] 0, bw 2 [82, 69, 84, 85, 82, 78] 0, bw 1 v 0]
def edgW (edge label : List UInt8) (back : Bool) (n m : Nat) (L : List Tk) : List Tk := if back then bw 5 [60] 0 :: bw 5 [45] 0 :: bodW edge label n m (bw 5 [45] 0 :: L) else bw 5 [45] 0 :: bodW edge label n m (bw 5 [45] 0 :: bw 5 [62] 0 :: L)
def patW (v label edge : List UInt8) (back : Bool) (n m : Nat) : List Tk := bw 2 [77, 65, 84, 67, 72] 0 :: bw 5 [40] 0 :: bw 1 v 0 :: bw 5 [58] 0 :: bw 1 label 0 :: bw 5 [41] 0 :: edgW edge label back n m (endW v)
/-- So many words, but for their places. -/
def LxB (at' : Nat) (l : List UInt8) (W : List Tk) : Prop := ∃ L, Lxs at' l L ∧ L.map bareT = W
theorem sgn_facts : ∀ b ∈ ([91, 58, 42, 46, 93, 45, 62, 60, 40, 41] : List UInt8), b.toNat < 128 ∧ ¬ ((b.toNat : Nat) : Int) = 39 ∧ digB (b.toNat : Int) = false ∧ runeB true (b.toNat : Int) = false ∧ blankB (b.toNat : Int) = false := by decide
theorem xb_sign (b : UInt8) (g t : List UInt8) (at' : Nat) {W : List Tk} (hb : b ∈ ([91, 58, 42, 46, 93, 45, 62, 60, 40, 41] : List UInt8)) (hs : signL (b :: g ++ t) = b :: g) (hl : LxB (at' + (g.length + 1)) t W) : LxB at' (b :: g ++ t) (bw 5 (b :: g) 0 :: W) := by
  obtain ⟨L, h1, h2⟩ := hl
  exact ⟨_, lx_sign b g t at' (sgn_facts b hb) hs h1, by rw [List.map_cons, h2]; rfl⟩
theorem xb_name {v : List UInt8} (h : NameOf v) (b : UInt8) (t : List UInt8) (hb : b.toNat < 128) (hr : runeB false (b.toNat : Int) = false) {at' : Nat} {W : List Tk} (hl : LxB (at' + v.length) (b :: t) W) : LxB at' (v ++ b :: t) (bw 1 v 0 :: W) := by
  obtain ⟨L, h1, h2⟩ := hl
  exact ⟨_, lx_name h b t hb hr h1, by rw [List.map_cons, h2]; rfl⟩
theorem xb_last {v : List UInt8} (h : NameOf v) (at' : Nat) : LxB at' v [bw 1 v 0] := ⟨_, lx_last h at', rfl⟩
theorem xb_blank (at' : Nat) (t : List UInt8) {W : List Tk} (hl : LxB (at' + 1) t W) : LxB at' (32 :: t) W := by
  obtain ⟨L, h1, h2⟩ := hl
  exact ⟨_, lx_blank at' t h1, h2⟩
theorem xb_digit (n : Nat) (hn : n < 9) (b : UInt8) (t : List UInt8) (hb : b.toNat < 128) (hd : digB (b.toNat : Int) = false) (at' : Nat) {W : List Tk} (hl : LxB (at' + 1) (b :: t) W) : LxB at' (UInt8.ofNat (48 + n) :: b :: t) (bw 3 [] n :: W) := by
  obtain ⟨L, h1, h2⟩ := hl
  exact ⟨_, lx_digit n hn b t hb hd at' h1, by rw [List.map_cons, h2]; rfl⟩
theorem xb_key (K : List UInt8) (t : List UInt8) (at' : Nat) {W : List Tk} (hne : K ≠ []) (hb : blankB (decodeL K).1 = false) (hw : wordL K = ⟨2, K, 0, K.length, 0⟩) (hl : LxB (at' + K.length) (32 :: t) W) : LxB at' (K ++ 32 :: t) (bw 2 K 0 :: W) := by
  obtain ⟨L, h1, h2⟩ := hl
  exact ⟨_, lx_key K t at' hne hb hw h1, by rw [List.map_cons, h2]; rfl⟩
theorem xb_body {edge label : List UInt8} (he : NameOf edge) (hl : NameOf label) {n m : Nat} (hn : n < 9) (hm : m < 9) (t : List UInt8) {W : List Tk} (ht : ∀ at', LxB at' t W) (at' : Nat) : LxB at' (bodT edge label n m t) (bodW edge label n m W) :=
  xb_sign 91 [] _ _ (by decide) rfl (xb_name he 58 _ (by decide) (by decide) (xb_sign 58 [] _ _ (by decide) rfl (xb_name hl 42 _ (by decide) (by decide) (xb_sign 42 [] _ _ (by decide) rfl
    (xb_digit n hn 46 _ (by decide) (by decide) _ (xb_sign 46 [46] _ _ (by decide) rfl (xb_digit m hm 93 _ (by decide) (by decide) _ (xb_sign 93 [] _ _ (by decide) rfl (ht _)))))))))
theorem xb_end {v : List UInt8} (hv : NameOf v) (at' : Nat) : LxB at' (endT v) (endW v) :=
  xb_sign 40 [] _ _ (by decide) rfl (xb_sign 41 [] _ _ (by decide) rfl (xb_blank _ _ (xb_key [82, 69, 84, 85, 82, 78] v _ (by decide) (by decide +kernel) (by rfl) (xb_blank _ _ (xb_last hv _)))))
theorem xb_patt {v label edge : List UInt8} (hv : NameOf v) (hl : NameOf label) (he : NameOf edge) (back : Bool) {n m : Nat} (hn : n < 9) (hm : m < 9) : LxB 0 (patT v label edge back n m) (patW v label edge back n m) := by
  refine xb_key [77, 65, 84, 67, 72] _ 0 (by decide) (by decide +kernel) (by rfl) (xb_blank _ _ (xb_sign 40 [] _ _ (by decide) rfl (xb_name hv 58 _ (by decide) (by decide) (xb_sign 58 [] _ _ (by decide) rfl (xb_name hl 41 _ (by decide) (by decide) (xb_sign 41 [] _ _ (by decide) rfl ?_))))))
  cases back with
  | true => exact xb_sign 60 [] _ _ (by decide) rfl (xb_sign 45 [] _ _ (by decide) rfl (xb_body he hl hn hm _ (fun p => xb_sign 45 [] _ _ (by decide) rfl (xb_end hv _)) _))
  | false => exact xb_sign 45 [] _ _ (by decide) rfl (xb_body he hl hn hm _ (fun p => xb_sign 45 [] _ _ (by decide) rfl (xb_sign 62 [] _ _ (by decide) rfl (xb_end hv _))) _)
/-- What it is read as. -/
def patQ (v label edge : List UInt8) (back : Bool) (n m : Nat) : Qy := ⟨[⟨[⟨v, label⟩, ⟨[], []⟩], [⟨edge, label, back, 1, n, m⟩]⟩], [], false, [⟨.leaf 2 v [] 0 false 0 [], []⟩], [], -1⟩
/-- From m on: the nine numbers, one by one. -/
theorem nine {P : Nat → Prop} (h0 : P 0) (h1 : P 1) (h2 : P 2) (h3 : P 3) (h4 : P 4) (h5 : P 5) (h6 : P 6) (h7 : P 7) (h8 : P 8) : ∀ n, n < 9 → P n
  | 0, _ => h0
  | 1, _ => h1
  | 2, _ => h2
  | 3, _ => h3
  | 4, _ => h4
  | 5, _ => h5
  | 6, _ => h6
  | 7, _ => h7
  | 8, _ => h8
  | n + 9, h => absurd h (by omega)
theorem patt_says (v label edge : List UInt8) (back : Bool) : ∀ n, n < 9 → ∀ m, m < 9 → n ≤ m → endP 0 (queryP 0 23 (patW v label edge back n m)) = .ok (patQ v label edge back n m) [] := by
  cases back <;> (refine nine ?_ ?_ ?_ ?_ ?_ ?_ ?_ ?_ ?_ <;> refine nine ?_ ?_ ?_ ?_ ?_ ?_ ?_ ?_ ?_) <;> (intro h; first | exact absurd h (by decide) | kernel_rfl)
theorem patt_len {v label edge : List UInt8} (hv : v.length ≤ 32) (hl : label.length ≤ 32) (he : edge.length ≤ 32) (back : Bool) (n m : Nat) : (patT v label edge back n m).length ≤ 200 := by
  cases back <;> (unfold patT edgT bodT endT; simp only [List.length_append, List.length_cons, List.length_nil, if_true, if_false, Bool.false_eq_true]; omega)
theorem name_len {v : List UInt8} (h : NameOf v) : v.length ≤ 32 := by
  have hw := h.way.symm.trans h.word
  unfold nameW at hw
  split at hw
  · injection hw with e
    exact absurd e (by decide)
  · split at hw
    · injection hw with e
      exact absurd e (by decide)
    · rename_i h2
      rw [h.span] at h2
      omega
/-- The document's pattern of any names, labels and ways. -/
theorem patt_read {v label edge : List UInt8} (hv : NameOf v) (hl : NameOf label) (he : NameOf edge) (back : Bool) (n m : Nat) (hn : n < 9) (hm : m < 9) (hnm : n ≤ m) : parseL (patT v label edge back n m) = .ok (patQ v label edge back n m) [] := by
  obtain ⟨L, h1, h2⟩ := xb_patt hv hl he back hn hm
  have hz := patt_len (name_len hv) (name_len hl) (name_len he) back n m
  have hx := lxs_lexL h1 (by omega)
  have hN : L.length = 22 := by
    have := congrArg List.length h2
    rw [List.length_map] at this
    rw [this]
    cases back <;> rfl
  have he2 : (parseL (patT v label edge back n m)).er = .ok (patQ v label edge back n m) [] := by
    unfold parseL
    rw [hx, if_pos rfl, er_end (er_query _ _), h2, hN]
    exact patt_says v label edge back n hn m hm hnm
  cases hr : parseL (patT v label edge back n m) with
  | ok x M =>
    rw [hr] at he2
    injection he2 with e1 e2
    rw [e1, List.map_eq_nil_iff.1 e2]
  | bad a y =>
    rw [hr] at he2
    cases he2
end Go.Proofs.YtefenbonjepjgaaGreatDoor
namespace Go.Proofs.YtefenbonjepjgaaGreatDoor
open Go.ChangeShapes Go.WideShapes Go.ChangeAt Go.RowKit
set_option linter.unusedSimpArgs false
set_option linter.unusedVariables false

theorem patt_parse {v label edge : ByteArray} (hv : NameOf v.data.toList) (hl : NameOf label.data.toList) (he : NameOf edge.data.toList) (back : Bool) (n m : Nat) (hn : n < 9) (hm : m < 9) (hnm : n ≤ m) (tx : ByteArray) (ht : tx.data.toList = patT v.data.toList label.data.toList edge.data.toList back n m) (hz : tx.size ≤ maxLen) (W : World) (hT : Tabs W) :
    Calls Tryz.prog 10 #[.string tx] W fun e w' => Below W.heap.size W w' ∧ ∃ g o c0 p1 c1 p3 c3 p4 c4 gn on cn ge oe ce, e = .returned (.tuple #[.agg #[.slice (some ⟨g, o, none⟩) 1 c0, .slice p1 0 c1, .bool false, .slice p3 1 c3, .slice p4 0 c4, .int .i64 (-1)], .int .i64 0, .int .i64 0]) ∧
      w'.cell? ⟨g, o, none⟩ = some (.slice (some ⟨gn, on, none⟩) 2 cn) ∧ w'.cell? ⟨g, o + 1, none⟩ = some (.slice (some ⟨ge, oe, none⟩) 1 ce) ∧
      w'.cell? ⟨gn, on, none⟩ = some (.string v) ∧ w'.cell? ⟨gn, on + 1, none⟩ = some (.string label) ∧ w'.cell? ⟨gn, on + 2, none⟩ = some (.string ⟨#[]⟩) ∧ w'.cell? ⟨gn, on + 3, none⟩ = some (.string ⟨#[]⟩) ∧
      w'.cell? ⟨ge, oe, none⟩ = some (.string edge) ∧ w'.cell? ⟨ge, oe + 1, none⟩ = some (.string label) ∧ w'.cell? ⟨ge, oe + 2, none⟩ = some (.bool back) ∧ w'.cell? ⟨ge, oe + 3, none⟩ = some (.int .i64 1) ∧ w'.cell? ⟨ge, oe + 4, none⟩ = some (.int .i64 n) ∧ w'.cell? ⟨ge, oe + 5, none⟩ = some (.int .i64 m) := by
  refine (parse10 tx hz W hT).mono ?_
  rw [ht, patt_read hv hl he back n m hn hm hnm]
  rintro e w' ⟨hb, v', rfl, v0, v1, v3, v4, rfl, h0, h1, h3, h4⟩
  refine ⟨hb, ?_⟩
  obtain ⟨p0, c0, rfl, _, k0⟩ := h0.read2
  obtain ⟨p1, c1, rfl⟩ := h1.val
  obtain ⟨p3, c3, rfl⟩ := h3.val
  obtain ⟨p4, c4, rfl⟩ := h4.val
  obtain ⟨g, o, rfl, cs, ⟨q1, d1, q2, d2, rfl, rn, re⟩, kc⟩ := k0 0 _ rfl
  obtain ⟨_, _, e1, _, mn⟩ := rn.read2
  obtain ⟨_, _, e2, _, me⟩ := re.read2
  cases e1
  cases e2
  obtain ⟨gn, on, e3, cs1, rfl, n0⟩ := mn 0 _ rfl
  obtain ⟨gn', on', e4, cs2, rfl, n1⟩ := mn 1 _ rfl
  obtain ⟨ge, oe, e5, cs3, rfl, x0⟩ := me 0 _ rfl
  subst e3
  subst e5
  cases e4
  exact ⟨g, o, c0, p1, c1, p3, c3, p4, c4, gn, on, d1, ge, oe, d2, rfl, kc 0 _ rfl, kc 1 _ rfl, n0 0 _ rfl, n0 1 _ rfl, n1 0 _ rfl, n1 1 _ rfl, x0 0 _ rfl, x0 1 _ rfl, x0 2 _ rfl, x0 3 _ rfl, x0 4 _ rfl, x0 5 _ rfl⟩
theorem below_drewN2 (w : World) (n : Nat) : Below w.heap.size w (w.drewN n) := ⟨rfl, rfl, rfl, Nat.le_refl _, fun _ _ => rfl⟩
theorem dig_list : ∀ n, n < 9 → ((⟨#[48, 49, 50, 51, 52, 53, 54, 55, 56]⟩ : ByteArray).extract n (n + 1)).data.toList = [UInt8.ofNat (48 + n)] :=
  nine rfl rfl rfl rfl rfl rfl rfl rfl rfl
theorem body_list (label edge : ByteArray) (n m : Nat) (hn : n < 9) (hm : m < 9) (t : List UInt8) : ((⟨#[91]⟩ : ByteArray) ++ edge ++ ⟨#[58]⟩ ++ label ++ ⟨#[42]⟩ ++ (⟨#[48, 49, 50, 51, 52, 53, 54, 55, 56]⟩ : ByteArray).extract n (n + 1) ++ ⟨#[46, 46]⟩ ++ (⟨#[48, 49, 50, 51, 52, 53, 54, 55, 56]⟩ : ByteArray).extract m (m + 1) ++ ⟨#[93]⟩).data.toList ++ t = bodT edge.data.toList label.data.toList n m t := by
  simp only [Joins.data_append, dig_list n hn, dig_list m hm, bodT, List.append_assoc, List.cons_append, List.nil_append, List.singleton_append]
theorem pat_size (v label S : ByteArray) (hv : v.size ≤ 32) (hl : label.size ≤ 32) (hS : S.size ≤ 110) : ((⟨#[77, 65, 84, 67, 72, 32, 40]⟩ : ByteArray) ++ v ++ ⟨#[58]⟩ ++ label ++ ⟨#[41]⟩ ++ S ++ ⟨#[40, 41, 32, 82, 69, 84, 85, 82, 78, 32]⟩ ++ v).size ≤ maxLen := by
  have c1 : (⟨#[77, 65, 84, 67, 72, 32, 40]⟩ : ByteArray).size = 7 := rfl
  have c2 : (⟨#[58]⟩ : ByteArray).size = 1 := rfl
  have c3 : (⟨#[41]⟩ : ByteArray).size = 1 := rfl
  have c4 : (⟨#[40, 41, 32, 82, 69, 84, 85, 82, 78, 32]⟩ : ByteArray).size = 10 := rfl
  simp only [ByteArray.size_append, c1, c2, c3, c4]
  unfold maxLen
  omega
theorem pat_list (v label edge BD : ByteArray) (n m : Nat) (hB : ∀ t, BD.data.toList ++ t = bodT edge.data.toList label.data.toList n m t) (back : Bool) (S : ByteArray) (hS : S = if back then (⟨#[60, 45]⟩ : ByteArray) ++ BD ++ ⟨#[45]⟩ else (⟨#[45]⟩ : ByteArray) ++ BD ++ ⟨#[45, 62]⟩) :
    ((⟨#[77, 65, 84, 67, 72, 32, 40]⟩ : ByteArray) ++ v ++ ⟨#[58]⟩ ++ label ++ ⟨#[41]⟩ ++ S ++ ⟨#[40, 41, 32, 82, 69, 84, 85, 82, 78, 32]⟩ ++ v).data.toList = patT v.data.toList label.data.toList edge.data.toList back n m := by
  subst hS
  cases back with
  | true =>
    simp only [Joins.data_append, patT, edgT, endT, ← hB, if_true, List.append_assoc, List.cons_append, List.nil_append, List.singleton_append]
  | false =>
    simp only [Joins.data_append, patT, edgT, endT, ← hB, if_false, Bool.false_eq_true, List.append_assoc, List.cons_append, List.nil_append, List.singleton_append]
end Go.Proofs.YtefenbonjepjgaaGreatDoor
