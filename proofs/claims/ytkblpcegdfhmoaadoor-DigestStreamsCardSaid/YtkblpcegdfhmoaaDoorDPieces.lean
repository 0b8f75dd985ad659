/-
  DigestPieces' walk. Conditions: the texts are known; the constants lie in their variable.
-/
import Derived.Test.YtkblpcegdfhmoaaDoorDFrameRef
namespace Go.Proofs.YtkblpcegdfhmoaaDoor
open Go.RowKit

theorem own_form {w : World} {B n : Nat} {v : Value} {bs : List B8} (h : w.ownsRow B 5 1 v n (Vb bs)) : ∃ A c, v = .slice A n c ∧ TxtN w w.heap.size A n c bs := by
  have hl : bs.length = n := by have := h.1; rw [Vb_length] at this; omega
  rcases h.2 with ⟨rfl, h0⟩ | ⟨g, cap, cur, rfl, h1, hg, h2, h3, hs, ht⟩
  · subst h0
    exact ⟨none, 0, rfl, ⟨⟨hl, Nat.le_refl _, Nat.zero_le _, fun h => absurd h (by omega)⟩, fun _ => ⟨rfl, rfl⟩⟩⟩
  · have hgs : g < w.heap.size := (Array.getElem?_eq_some_iff.1 hg).1
    refine ⟨_, _, rfl, ⟨⟨hl, h2, h3, fun _ => ⟨g, 0, rfl, by omega, fun j hj => ?_⟩⟩, fun h => by cases h⟩⟩
    rw [Nat.zero_add, h.cellAt j (by omega), Vb_get, List.getD_eq_getElem?_getD, List.getElem?_eq_getElem (by omega)]
    rfl
theorem OTexts.below {B : Nat} {w w' : World} {v : Value} {X : List (List B8)} (h : OTexts B w v X) (hb : Below w.heap.size w w') : OTexts B w' v X := by
  obtain ⟨cells, ho, hc⟩ := h
  refine ⟨cells, ownsRow_only (S := []) ho (Only.of_below hb) (by simp), fun j x hx => ?_⟩
  obtain ⟨A, k, c, h1, h2⟩ := hc j x hx
  exact ⟨A, k, c, h1, (h2.below hb (Nat.le_refl _)).at (Nat.le_refl _)⟩
theorem OTexts.form {B : Nat} {w : World} {v : Value} {X : List (List B8)} (h : OTexts B w v X) : ∃ A c, v = .slice A X.length c ∧ TxtsN w w.heap.size A X.length X ∧ (A = none → c = 0) := by
  obtain ⟨cells, ho, hc⟩ := h
  have hcl : cells.length = X.length := by have := ho.1; omega
  rcases ho.2 with ⟨rfl, h0⟩ | ⟨g, cap, cur, rfl, h1, hg, h2, h3, hs, ht⟩
  · rw [h0]
    exact ⟨none, 0, rfl, ⟨h0, fun h => absurd h (by omega)⟩, fun _ => rfl⟩
  · have hgs : g < w.heap.size := (Array.getElem?_eq_some_iff.1 hg).1
    refine ⟨_, _, rfl, ⟨rfl, fun _ => ⟨g, 0, rfl, by omega, fun j x hx => ?_⟩⟩, fun h => by cases h⟩
    obtain ⟨A, k, c, hj, ht⟩ := hc j x hx
    have hjl : j < X.length := (List.getElem?_eq_some_iff.1 hx).1
    exact ⟨A, k, c, by rw [Nat.zero_add, ho.cellAt j (by omega)]; exact hj, ht⟩
theorem OTexts.txtsN {B n c : Nat} {w : World} {A : Option Addr} {X : List (List B8)} (h : OTexts B w (.slice A n c) X) : TxtsN w w.heap.size A n X := by
  obtain ⟨A', c', e, ht, _⟩ := h.form
  simp only [Value.slice.injEq] at e
  obtain ⟨rfl, rfl, rfl⟩ := e
  exact ht
theorem own_txt {w : World} {B n c k : Nat} {A : Option Addr} {bs : List B8} (h : w.ownsRow B 5 1 (.slice A n c) k (Vb bs)) : TxtN w w.heap.size A n c bs := by
  obtain ⟨A', c', e, ht⟩ := own_form h
  simp only [Value.slice.injEq] at e
  obtain ⟨rfl, rfl, rfl⟩ := e
  exact ht
theorem one_flat (m : List B8) : [m].flatten = m := by simp
theorem snoc_small {X : List (List B8)} (h : ∀ x ∈ X, x.length ≤ 300) : ∀ x ∈ X ++ [[]], x.length ≤ 300 := by
  intro x hx
  rcases List.mem_append.1 hx with h1 | h1
  · exact h x h1
  · simp at h1; subst h1; simp
/-- What the law keeps in memory. -/
structure St7 (B B1 N : Nat) (w0 w : World) (vx va vy : Value) (X : List (List B8)) : Prop where
  roots : Roots Ks w
  x : OTexts B w vx X
  a : w.ownsRow B 5 1 va N (Vb X.flatten)
  y : OTexts B1 w vy (X ++ [[]])
  below' : Below w0.heap.size w0 w
theorem St7.below {B B1 N : Nat} {w0 w w' : World} {vx va vy : Value} {X : List (List B8)} (h : St7 B B1 N w0 w vx va vy X) (hb : Below w.heap.size w w') : St7 B B1 N w0 w' vx va vy X :=
  ⟨h.roots.below hb h.roots.pos, h.x.below hb, ownsRow_only (S := []) h.a (Only.of_below hb) (by simp), h.y.below hb, h.below'.trans (hb.mono h.below'.size)⟩
/-- One text, alone in a slice of the call's own. -/
theorem one_txts {w : World} {A : Option Addr} {n c : Nat} {bs : List B8} (h : TxtN w w.heap.size A n c bs) : Txts (w.alloc (.cells #[.slice A n c] 23)) (w.heap.size + 1) (some ⟨w.heap.size, 0, none⟩) 1 [bs] := by
  have hb := Blk.new w 23 [.slice A n c]
  refine ⟨rfl, fun _ => ⟨w.heap.size, 0, rfl, by omega, fun i x hx => ?_⟩⟩
  match i, hx with
  | 0, hx =>
    simp only [List.getElem?_cons_zero, Option.some.injEq] at hx
    subst hx
    exact ⟨A, n, c, hb.cell 0, ((h.at (q := w.heap.size + 1) (by omega)).txt.below ((Below.refl _ _).alloc (Nat.le_refl _) _) (Nat.le_refl _))⟩
theorem cut_len (xs : List (List B8)) : (cutT xs).length ≤ 12 := by unfold cutT; simp; omega
theorem cut_each (xs : List (List B8)) : ∀ x ∈ cutT xs, x.length ≤ 300 := by
  intro x hx
  unfold cutT at hx
  obtain ⟨y, _, rfl⟩ := List.mem_map.1 hx
  rw [List.length_take]
  omega
theorem cut_all (xs : List (List B8)) : (cutT xs).flatten.length ≤ 3600 := by
  have := cut_small xs 12 (Nat.le_refl _)
  rw [List.take_of_length_le (cut_len xs)] at this
  omega

theorem cells_one {w : World} {X : List (List B8)} {cells : List Value} (h : ∀ (j : Nat) (x : List B8), X[j]? = some x → ∃ A k c, cells[j]? = some (Value.slice A k c) ∧ TxtN w w.heap.size A k c x) (hl : cells.length = X.length) : ∀ u ∈ cells, u.oneCell' = true := by
  intro u hu
  obtain ⟨j, hj, rfl⟩ := List.getElem_of_mem hu
  obtain ⟨A, k, c, h1, _⟩ := h j (X[j]'(by omega)) (List.getElem?_eq_getElem _)
  rw [List.getElem?_eq_getElem hj] at h1
  injection h1 with h1
  rw [h1]
  rfl
theorem cells_at {w w' : World} {B n c : Nat} {a : Addr} {cells : List Value} (h : w.ownsRow B 23 1 (.slice (some a) n c) n cells) (hb : Below w.heap.size w w') : ∀ j u, cells[j]? = some u → w'.cell? (a.add j) = some u := by
  intro j u hu
  have hl := h.1
  have hj : j < n := by have := (List.getElem?_eq_some_iff.1 hu).1; omega
  rcases h.2 with ⟨h', _⟩ | ⟨g, cap, cur, h', _, hg, _⟩
  · simp at h'
  · simp only [Value.slice.injEq, Option.some.injEq] at h'
    obtain ⟨rfl, _, rfl⟩ := h'
    rw [Addr.add_mid, Nat.zero_add]
    have hc := h.cellAt j (by omega)
    have hgs : g < w.heap.size := (Array.getElem?_eq_some_iff.1 hg).1
    exact (hb.cell (p := ⟨g, j, none⟩) hgs).trans (hc.trans hu)
theorem otexts_snoc {w w' : World} {B : Nat} {v : Value} {X : List (List B8)} {cells : List Value} (h : ∀ (j : Nat) (x : List B8), X[j]? = some x → ∃ A k c, cells[j]? = some (Value.slice A k c) ∧ TxtN w w.heap.size A k c x) (hl : cells.length = X.length)
    (ho : w'.ownsRow B 23 1 v (X.length + 1) (cells ++ [Value.slice none 0 0])) (hb : Below w.heap.size w w') : OTexts B w' v (X ++ [[]]) := by
  refine ⟨_, by rw [List.length_append]; exact ho, fun j x hx => ?_⟩
  by_cases hj : j < X.length
  · rw [List.getElem?_append_left hj] at hx
    obtain ⟨A, k, c, h1, h2⟩ := h j x hx
    exact ⟨A, k, c, by rw [List.getElem?_append_left (by omega)]; exact h1, (h2.below hb (Nat.le_refl _)).at (Nat.le_refl _)⟩
  · have hjl : j < (X ++ [[]]).length := (List.getElem?_eq_some_iff.1 hx).1
    rw [List.length_append, List.length_singleton] at hjl
    obtain rfl : j = X.length := by omega
    rw [List.getElem?_append_right (Nat.le_refl _), Nat.sub_self] at hx
    simp only [List.getElem?_cons_zero, Option.some.injEq] at hx
    subst hx
    exact ⟨none, 0, 0, by rw [List.getElem?_append_right (by omega), hl, Nat.sub_self]; rfl, ⟨⟨rfl, Nat.le_refl _, Nat.zero_le _, fun h => absurd h (by omega)⟩, fun _ => ⟨rfl, rfl⟩⟩⟩

set_option maxHeartbeats 1000000 in
set_option maxRecDepth 100000 in
theorem pieces_walk (w : World) (L : Option Addr) (n c : Nat) (xs : List (List B8)) (ht : TxtsN w w.heap.size L n xs) (hn : n ≤ 9223372036854775807) (hK : Roots Ks w) :
    Calls Tryd.prog 7 #[.slice L n c] w fun e w' => e = .returned (.bool true) ∧ Below w.heap.size w w' := by
  have hpos := hK.pos
  obtain ⟨i1, hj, hy0, hy1, hy2⟩ := info_parts (show (Tryd.prog.info? 23).map (fun i => (i.zero, i.size, i.bytes)) = some (some (.slice none 0 0), 1, 24) by kernel_rfl)
  have HJ := Lib.hid (And.intro hj (And.intro hy0 (And.intro hy1 hy2)))
  have HK := Lib.hid hK
  have heq : ∀ (m : List B8) W, (Op.equalIn 10000 31 (.agg (Vb (sha Ks m)).toArray) (.agg (Vb (sha Ks m)).toArray)).run Tryd.prog W = .ok true W := fun m W => by
    rw [eql32 _ _ (sha_length _ _) (sha_length _ _)]
    simp
  clear hj hy0 hy1 hy2 hK
  go_enter Tryd.func7, Tryd.ntmps7
  go_wp2_with fail
  refine (texts_any w L n c xs ht hn).mono ?_
  clear ht
  rintro e w1 ⟨vx, va, rfl, hox, hoa, hb⟩
  obtain ⟨X, hX⟩ : ∃ X, X = cutT xs := ⟨_, rfl⟩
  have hX12 := cut_len xs
  have hXe := cut_each xs
  have hXa := cut_all xs
  rw [← hX] at hox hoa hX12 hXe hXa
  clear hX
  have HX := Lib.hid (And.intro hox (And.intro hoa hb))
  have HE := Lib.hid hXe
  clear hox hoa hb hXe
  obtain ⟨cells, hown, hcells⟩ := HX.out.1
  have hcl : cells.length = X.length := by have := hown.1; omega
  have HC := Lib.hid (And.intro hown (And.intro hcells hcl))
  clear hown hcells hcl
  go_upto_region 2 with fail
  go_cut [5] (fun vy wx => OTexts w1.heap.size wx vy (X ++ [[]]) ∧ Below w1.heap.size w1 wx)
  case first =>
    have hown0 : (w1.alloc (.cells (([] : List Value)).toArray 23)).ownsRow w1.heap.size 23 1 (.slice (some ⟨w1.heap.size, 0, none⟩) 0 0) 0 [] := owned_of_blk (k := 0) (Blk.new w1 23 []) (Nat.le_refl _) (Nat.le_refl _) (by simp [maxLen])
    have hb0 : Below w1.heap.size w1 (w1.alloc (.cells (([] : List Value)).toArray 23)) := (Below.refl _ _).alloc (Nat.le_refl _) _
    have H0 := Lib.hid (And.intro hown0 hb0)
    clear hown0 hb0
    obtain ⟨A, cx, rfl, hxt, hnil⟩ := HX.out.1.form
    have HN := Lib.hid hnil
    have HXT := Lib.hid hxt
    clear hnil hxt
    match A, HX, HC, HN with
    | none, HX, HC, HN =>
      have hx0 : X.length = 0 := by
        rcases HC.out.1.2 with ⟨_, h0⟩ | ⟨g, _, _, h, _⟩
        · exact h0
        · simp at h
      obtain rfl := List.eq_nil_of_length_eq_zero hx0
      obtain rfl := HN.out rfl
      obtain rfl := List.eq_nil_of_length_eq_zero HC.out.2.2
      go_wp2_with (first
        | (at_builtin; (refine wpList_append_own_none rfl (.tmp 11) (.tmp 12) 22 rfl w1.heap.size 23 i1 1 Tryd.underlying22 HJ.out.1 (.slice (some ⟨w1.heap.size, 0, none⟩) 0 0) 0 [] rfl H0.out.1 rfl ?_))
        | (at_builtin; (refine wpList_append_own _ rfl (.tmp 13) (.tmp 14) 22 rfl w1.heap.size 23 i1 (.slice none 0 0) 1 24 Tryd.underlying22 HJ.out.1 HJ.out.2.1 HJ.out.2.2.1 HJ.out.2.2.2 rfl (by decide) (.slice (some ⟨w1.heap.size, 0, none⟩) 0 0) 0 [] rfl (H0.out.1.alloc _) ⟨w1.heap.size + 1, 0, none⟩ 1 1 [Value.slice none 0 0] rfl rfl (by have := new_one (w1.alloc (.cells (([] : List Value)).toArray 23)) (Value.slice none 0 0) 23; rw [World.size_alloc] at this; exact this) (new_slice _ _ _) (by unfold maxLen; omega) (by omega) (by simp; omega) ?_); intro v3 w3 ho3 hg3 _))
      go_meet
      have hb3 : Below w1.heap.size w1 w3 := (H0.out.2.alloc H0.out.2.size _).grown hg3 (by simp; omega) (fun q hq => own_ge H0.out.1 q hq)
      exact ⟨otexts_snoc HC.out.2.1 rfl ho3 hb3, hb3⟩
    | some a, HX, HC, HN =>
      go_wp2_with (first
        | (at_builtin; (refine wpList_append_own _ rfl (.tmp 11) (.tmp 12) 22 rfl w1.heap.size 23 i1 (.slice none 0 0) 1 24 Tryd.underlying22 HJ.out.1 HJ.out.2.1 HJ.out.2.2.1 HJ.out.2.2.2 rfl (by decide) (.slice (some ⟨w1.heap.size, 0, none⟩) 0 0) 0 [] rfl H0.out.1 a X.length cx cells rfl (by have := HC.out.2.2; omega) (cells_at HC.out.1 H0.out.2) (cells_one HC.out.2.1 HC.out.2.2) (by unfold maxLen; omega) (by omega) (by simp) ?_); intro v2 w2 ho2 hg2 _; rw [Nat.zero_add, List.nil_append] at ho2; have HB2 := Lib.hid (H0.out.2.grown hg2 (by simp) (fun q hq => own_ge H0.out.1 q hq)); have HA2 := Lib.hid ho2; clear ho2 hg2)
        | (at_builtin; (refine wpList_append_own _ rfl (.tmp 13) (.tmp 14) 22 rfl w1.heap.size 23 i1 (.slice none 0 0) 1 24 Tryd.underlying22 HJ.out.1 HJ.out.2.1 HJ.out.2.2.1 HJ.out.2.2.2 rfl (by decide) v2 X.length cells rfl (HA2.out.alloc _) ⟨w2.heap.size, 0, none⟩ 1 1 [Value.slice none 0 0] rfl rfl (new_one w2 _ 23) (new_slice _ _ _) (by unfold maxLen; omega) (by omega) (by have := HB2.out.size; simp; omega) ?_); intro v3 w3 ho3 hg3 _))
      go_meet
      have hb3 : Below w1.heap.size w1 w3 := (HB2.out.alloc HB2.out.size _).grown hg3 (by have := HB2.out.size; simp; omega) (fun q hq => own_ge HA2.out q hq)
      exact ⟨otexts_snoc HC.out.2.1 HC.out.2.2 ho3 hb3, hb3⟩
  case rest =>
    obtain ⟨hoy, hby⟩ := hcut
    have S := Lib.hid (St7.mk (B := w.heap.size) (HK.out.below (HX.out.2.2.trans (hby.mono HX.out.2.2.size)) hpos) (HX.out.1.below hby) (ownsRow_only (S := []) HX.out.2.1 (Only.of_below hby) (by simp)) hoy (HX.out.2.2.trans (hby.mono HX.out.2.2.size)))
    clear hoy hby HX HC
    obtain ⟨N, hN⟩ : ∃ N, N = X.flatten.length := ⟨_, rfl⟩
    rw [← hN] at S hXa
    have HNN := Lib.hid hN
    clear hN
    obtain ⟨A, cx, rfl, -⟩ := S.out.x.form
    obtain ⟨Aa, ca, rfl, -⟩ := own_form S.out.a
    obtain ⟨Ay, cy, rfl, -⟩ := S.out.y.form
    have hyl : (X ++ [[]]).length = X.length + 1 := by simp
    have hyf : (X ++ [[]]).flatten = X.flatten := by simp
    rw [hyl] at S
    have HYF := Lib.hid hyf
    clear hyf hyl
    go_wp2_with fail
    refine (known_walk wc S.out.roots).mono ?_
    rintro e w4 ⟨rfl, hb⟩
    have S4 := Lib.hid (S.out.below hb)
    clear hb S
    go_wp2_with fail
    refine (of_any Ks w4 w4.heap.size A X.length cx X S4.out.roots S4.out.x.txtsN.txts (by omega) (by have := HNN.out; omega)).mono ?_
    rintro e w5 ⟨rfl, hb⟩
    have S5 := Lib.hid (S4.out.below hb)
    clear hb S4
    go_wp2_with fail
    have T5 := one_txts (own_txt S5.out.a)
    have S6 := Lib.hid (S5.out.below ((Below.refl _ _).alloc (Nat.le_refl _) (.cells #[.slice Aa N ca] 23)))
    have HT5 := Lib.hid T5
    clear T5 S5
    refine (of_any Ks _ _ _ 1 1 [X.flatten] S6.out.roots HT5.out (by omega) (by rw [one_flat, ← HNN.out]; omega)).mono ?_
    rw [one_flat]
    rintro e w7 ⟨rfl, hb⟩
    have S7 := Lib.hid (S6.out.below hb)
    clear hb S6 HT5
    go_wp2_with fail
    refine (of_any Ks w7 w7.heap.size Ay (X.length + 1) cy (X ++ [[]]) S7.out.roots S7.out.y.txtsN.txts (by omega) (by rw [HYF.out, ← HNN.out]; omega)).mono ?_
    rw [HYF.out]
    rintro e w8 ⟨rfl, hb⟩
    have S8 := Lib.hid (S7.out.below hb)
    clear hb S7
    go_wp2_with fail
    have T8 := one_txts (own_txt S8.out.a)
    have S9 := Lib.hid (S8.out.below ((Below.refl _ _).alloc (Nat.le_refl _) (.cells #[.slice Aa N ca] 23)))
    have HT8 := Lib.hid T8
    clear T8 S8
    refine (of_any Ks _ _ _ 1 1 [X.flatten] S9.out.roots HT8.out (by omega) (by rw [one_flat, ← HNN.out]; omega)).mono ?_
    rw [one_flat]
    rintro e w10 ⟨rfl, hb⟩
    have S10 := Lib.hid (S9.out.below hb)
    clear hb S9 HT8
    go_wp2_with fail
    refine (framed_any Ks w10 Ay (X.length + 1) cy (X ++ [[]]) S10.out.roots S10.out.y.txtsN.txts (by omega) (snoc_small HE.out)).mono ?_
    rintro e w11 ⟨rfl, hb⟩
    have S11 := Lib.hid (S10.out.below hb)
    clear hb S10
    go_wp2_with fail
    refine (frame_ref w11 Ay (X.length + 1) cy (X ++ [[]]) S11.out.y.txtsN (by omega) (snoc_small HE.out)).mono ?_
    rintro e w12 ⟨vf, rfl, hof, hb⟩
    have S12 := Lib.hid (S11.out.below hb)
    clear hb S11
    obtain ⟨M, hM⟩ : ∃ M, M = (framesOf (X ++ [[]])).length := ⟨_, rfl⟩
    rw [← hM] at hof
    have hM2 : M ≤ 304 * 13 := by
      have := frames_small (X ++ [[]]) (snoc_small HE.out)
      rw [List.length_append, List.length_singleton] at this
      omega
    have HM := Lib.hid hM
    clear hM
    obtain ⟨Af, cf, rfl, htf⟩ := own_form hof
    have HTF := Lib.hid htf
    clear hof htf
    go_wp2_with fail
    have T12 := one_txts HTF.out
    have S13 := Lib.hid (S12.out.below ((Below.refl _ _).alloc (Nat.le_refl _) (.cells #[.slice Af M cf] 23)))
    have HT12 := Lib.hid T12
    clear T12 S12
    refine (of_any Ks _ _ _ 1 1 [framesOf (X ++ [[]])] S13.out.roots HT12.out (by omega) (by rw [one_flat, ← HM.out]; omega)).mono ?_
    rw [one_flat]
    rintro e w14 ⟨rfl, hb⟩
    have S14 := Lib.hid (S13.out.below hb)
    clear hb S13
    go_wp2_with fail
    go_ret
    exact ⟨rfl, S14.out.below'⟩

end Go.Proofs.YtkblpcegdfhmoaaDoor
