/-
  Texts: at most twelve of the texts, of at most 300 bytes, and all of them. Condition: the texts are known.
-/
import Derived.Test.YtkblpcegdfhmoaaDoorDKnown
import Derived.Laws.AppendOwnNone
import Derived.OwnWalk
namespace Go.Proofs.YtkblpcegdfhmoaaDoor
open Go.RowKit

def cutT (xs : List (List B8)) : List (List B8) := (xs.take 12).map (·.take 300)

/-- A text that is nil, or has an address. -/
structure TxtN (w : World) (p : Nat) (A : Option Addr) (n c : Nat) (bs : List B8) : Prop where
  txt : Txt w p A n c bs
  nil : A = none → n = 0 ∧ c = 0
structure TxtsN (w : World) (p : Nat) (L : Option Addr) (n : Nat) (xs : List (List B8)) : Prop where
  len : xs.length = n
  cells : 0 < n → ∃ g o, L = some ⟨g, o, none⟩ ∧ g ≠ p ∧ ∀ i x, xs[i]? = some x → ∃ A k c, w.cell? ⟨g, o + i, none⟩ = some (.slice A k c) ∧ TxtN w p A k c x
theorem TxtsN.txts {w : World} {p : Nat} {L : Option Addr} {n : Nat} {xs : List (List B8)} (h : TxtsN w p L n xs) : Txts w p L n xs := by
  refine ⟨h.len, fun hn => ?_⟩
  obtain ⟨g, o, hL, hg, hc⟩ := h.cells hn
  refine ⟨g, o, hL, hg, fun i x hx => ?_⟩
  obtain ⟨A, k, c, h0, ht⟩ := hc i x hx
  exact ⟨A, k, c, h0, ht.txt⟩
theorem TxtN.at {w : World} {p q : Nat} {A : Option Addr} {n c : Nat} {bs : List B8} (h : TxtN w p A n c bs) (hq : w.heap.size ≤ q) : TxtN w q A n c bs := ⟨h.txt.at hq, h.nil⟩
theorem TxtN.below {w w' : World} {p B : Nat} {A : Option Addr} {n c : Nat} {bs : List B8} (h : TxtN w p A n c bs) (ho : Below B w w') (hB : w.heap.size ≤ B) : TxtN w' p A n c bs := ⟨h.txt.below ho hB, h.nil⟩
theorem TxtN.at' {w w' : World} {p : Nat} {A : Option Addr} {n c : Nat} {bs : List B8} (h : TxtN w' p A n c bs) (_hq : w.heap.size ≤ w'.heap.size) : TxtN w' w'.heap.size A n c bs := h.at (Nat.le_refl _)
theorem Txt.take {w : World} {p : Nat} {A : Option Addr} {n c : Nat} {bs : List B8} (h : Txt w p A n c bs) (k : Nat) (hk : k ≤ n) : Txt w p A k c (bs.take k) := by
  refine ⟨by rw [List.length_take, h.len]; omega, by have := h.cap; omega, h.capm, fun h0 => ?_⟩
  obtain ⟨g, o, hA, hg, hc⟩ := h.cells (by omega)
  refine ⟨g, o, hA, hg, fun j hj => ?_⟩
  rw [hc j (by omega)]
  simp [List.getD_eq_getElem?_getD, hj]
/-- Texts in memory of the call's own. -/
def OTexts (B : Nat) (w : World) (v : Value) (X : List (List B8)) : Prop := ∃ cells : List Value, w.ownsRow B 23 1 v X.length cells ∧ ∀ (j : Nat) (x : List B8), X[j]? = some x → ∃ A k c, cells[j]? = some (Value.slice A k c) ∧ TxtN w w.heap.size A k c x

theorem own_own_ne {w : World} {B B' e e' s s' n n' : Nat} {v v' : Value} {xs xs' : List Value} (h : w.ownsRow B e s v n xs) (h' : w.ownsRow B' e' s' v' n' xs') (hne : e ≠ e') : ∀ g, v.ownBlock = some g → v'.ownBlock ≠ some g := by
  intro g hg hg'
  rcases h.2 with ⟨rfl, _⟩ | ⟨b, cap, cur, rfl, _, hh, _⟩
  · simp [Value.ownBlock] at hg
  · rcases h'.2 with ⟨rfl, _⟩ | ⟨b', cap', cur', rfl, _, hh', _⟩
    · simp [Value.ownBlock] at hg'
    · have e1 : b = g := by simpa [Value.ownBlock] using hg
      have e2 : b' = g := by simpa [Value.ownBlock] using hg'
      subst e1 e2
      rw [hh] at hh'
      injection hh' with hh'
      injection hh' with _ ht
      exact hne ht
theorem own_ge {w : World} {B e s n : Nat} {v : Value} {xs : List Value} (h : w.ownsRow B e s v n xs) : ∀ g, v.ownBlock = some g → B ≤ g := by
  intro g hg
  rcases h.2 with ⟨rfl, _⟩ | ⟨b, cap, cur, rfl, hb, _⟩
  · simp [Value.ownBlock] at hg
  · have e1 : b = g := by simpa [Value.ownBlock] using hg
    omega
theorem own_grown {w w' : World} {B e e' s s' n n' : Nat} {v v' : Value} {xs xs' : List Value} (h : w.ownsRow B e s v n xs) (h' : w.ownsRow B e' s' v' n' xs') (hne : e ≠ e') (hg : w.grownBy w' v'.ownBlock) : w'.ownsRow B e s v n xs := by
  refine ownsRow_only (S := v'.ownBlock.toList) h ((Only.refl _ _).grown hg (fun k hk => .inl (by simp [hk]))) ?_
  intro k hk hm
  exact own_own_ne h h' hne k hk (by simpa using hm)

theorem new_slice (A : Option Addr) (m c : Nat) : ∀ u ∈ [Value.slice A m c], u.oneCell' = true := by
  intro u hu
  simp at hu
  subst hu
  rfl
theorem txt_cells {w : World} {p : Nat} {a : Addr} {n c : Nat} {bs : List B8} (h : Txt w p (some a) n c bs) : ∀ j u, (Vb bs)[j]? = some u → w.cell? (a.add j) = some u := by
  intro j u hu
  rw [Vb_get] at hu
  cases hx : bs[j]? with
  | none => rw [hx] at hu; cases hu
  | some x =>
    rw [hx] at hu
    simp only [Option.map_some, Option.some.injEq] at hu
    subst hu
    have hj : j < n := by have := (List.getElem?_eq_some_iff.1 hx).1; have := h.len; omega
    obtain ⟨g, o, hA, hg, hc⟩ := h.cells (by omega)
    simp only [Option.some.injEq] at hA
    subst hA
    rw [Addr.add_mid, hc j hj, List.getD_eq_getElem?_getD, hx]
    rfl
theorem cut_get {xs : List (List B8)} {k : Nat} (h1 : k < xs.length) (h2 : k < 12) : (cutT xs)[k]? = some (xs[k].take 300) := by
  unfold cutT
  rw [List.getElem?_map, List.getElem?_take, if_pos h2, List.getElem?_eq_getElem h1]
  rfl
theorem cut_flat {xs : List (List B8)} {k : Nat} {x : List B8} (h : (cutT xs)[k]? = some x) : ((cutT xs).take (k + 1)).flatten = ((cutT xs).take k).flatten ++ x := take_flat h
theorem cut_small (xs : List (List B8)) (k : Nat) (hk : k ≤ 12) : ((cutT xs).take k).flatten.length ≤ 300 * k := by
  induction k with
  | zero => simp
  | succ k ih =>
    cases hx : (cutT xs)[k]? with
    | none =>
      rw [List.getElem?_eq_none_iff] at hx
      rw [List.take_of_length_le (by omega)]
      have := ih (by omega)
      rw [List.take_of_length_le hx] at this
      omega
    | some x =>
      rw [cut_flat hx, List.length_append]
      have := ih (by omega)
      have hl : x.length ≤ 300 := by
        have hm := List.mem_of_getElem? hx
        unfold cutT at hm
        obtain ⟨y, _, rfl⟩ := List.mem_map.1 hm
        rw [List.length_take]
        omega
      omega

/-- The cells gathered so far. -/
def Gathered (w0 : World) (X : List (List B8)) (k : Nat) (cells : List Value) : Prop := ∀ j x, j < k → X[j]? = some x → ∃ A m c, cells[j]? = some (Value.slice A m c) ∧ TxtN w0 w0.heap.size A m c x
theorem Gathered.snoc {w0 : World} {X : List (List B8)} {k : Nat} {cells : List Value} (h : Gathered w0 X k cells) (hl : cells.length = k) {A : Option Addr} {m c : Nat} {x : List B8} (hx : X[k]? = some x) (ht : TxtN w0 w0.heap.size A m c x) : Gathered w0 X (k + 1) (cells ++ [Value.slice A m c]) := by
  intro j y hj hy
  by_cases hjk : j < k
  · obtain ⟨A', m', c', h1, h2⟩ := h j y hjk hy
    exact ⟨A', m', c', by rw [List.getElem?_append_left (by omega)]; exact h1, h2⟩
  · obtain rfl : j = k := by omega
    rw [hx] at hy
    injection hy with hy
    subst hy
    exact ⟨A, m, c, by rw [List.getElem?_append_right (by omega), hl]; simp, ht⟩

def TextsRel (w : World) (xs : List (List B8)) (n : Nat) (i v va : Value) (wr : World) : Prop := ∃ k : Nat, k ≤ n ∧ k ≤ 12 ∧ i = .int .i64 k ∧ (∃ cells, wr.ownsRow w.heap.size 23 1 v k cells ∧ Gathered w (cutT xs) k cells) ∧
  wr.ownsRow w.heap.size 5 1 va ((cutT xs).take k).flatten.length (Vb ((cutT xs).take k).flatten) ∧ Below w.heap.size w wr

set_option maxHeartbeats 400000 in
set_option maxRecDepth 100000 in
theorem texts_any (w : World) (L : Option Addr) (n c : Nat) (xs : List (List B8)) (ht : TxtsN w w.heap.size L n xs) (hn : n ≤ 9223372036854775807) :
    Calls Tryd.prog 8 #[.slice L n c] w fun e w' => ∃ vx va, e = .returned (.tuple #[vx, va]) ∧ OTexts w.heap.size w' vx (cutT xs) ∧ w'.ownsRow w.heap.size 5 1 va (cutT xs).flatten.length (Vb (cutT xs).flatten) ∧ Below w.heap.size w w' := by
  obtain ⟨i0, hi, hz0, hz1, hz2⟩ := info_parts (show (Tryd.prog.info? 5).map (fun i => (i.zero, i.size, i.bytes)) = some (some (.int .u8 0), 1, 1) by kernel_rfl)
  obtain ⟨i1, hj, hy0, hy1, hy2⟩ := info_parts (show (Tryd.prog.info? 23).map (fun i => (i.zero, i.size, i.bytes)) = some (some (.slice none 0 0), 1, 24) by kernel_rfl)
  have HI := Lib.hid (And.intro hi (And.intro hz0 (And.intro hz1 hz2)))
  have HJ := Lib.hid (And.intro hj (And.intro hy0 (And.intro hy1 hy2)))
  have HT := Lib.hid ht
  clear hi hz0 hz1 hz2 hj hy0 hy1 hy2 ht
  go_enter Tryd.func8, Tryd.ntmps8
  go_wp2_with fail
  go_loopw [6, 4, 5] (fun i v va wr => TextsRel w xs n i v va wr) (fun i _ _ _ => n - (intOf i).toNat)
  case atStart => exact ⟨0, by omega, by omega, rfl, ⟨[], World.ownsRow_nil _ _ _ _, fun j x h => absurd h (by omega)⟩, World.ownsRow_nil _ _ _ _, Below.refl _ _⟩
  case round =>
    obtain ⟨k, hk, hk12, rfl, ⟨cells, hown, hcells⟩, howa, hbel⟩ := hrel
    have hl := HT.out.len
    by_cases hkn : k < n ∧ k < 12
    · obtain ⟨h1, h2⟩ := hkn
      obtain ⟨g, o, rfl, hgp, hc⟩ := HT.out.cells (by omega)
      obtain ⟨A, m, cc, hcell, htx⟩ := hc k (xs[k]'(by omega)) (List.getElem?_eq_getElem _)
      have hcw := (hbel.cell (World.block_lt_of_cell? w _ hcell)).trans hcell
      have hmc := htx.txt.cap
      have hmm := htx.txt.capm
      have hml := htx.txt.len
      unfold maxLen at hmm
      have hget := cut_get (xs := xs) (k := k) (by omega) h2
      generalize xs[k]'(by omega) = x at htx hget hml
      have hsm := cut_small xs k hk12
      have hcl : cells.length = k := by have := hown.1; omega
      have HO := Lib.hid (And.intro hown (And.intro hcells (And.intro howa (And.intro hbel (And.intro htx (And.intro hget hcl))))))
      have HX := Lib.hid hsm
      clear hown hcells howa hbel htx hc hcell hget hsm hcl
      match A, HO with
      | none, HO =>
        obtain ⟨rfl, rfl⟩ := HO.out.2.2.2.2.1.nil rfl
        obtain rfl := List.eq_nil_of_length_eq_zero hml
        have htake : TxtN w w.heap.size none 0 0 (([] : List B8).take 300) := (by simpa using HO.out.2.2.2.2.1)
        have HK := Lib.hid htake
        clear htake
        go_wp2_with fail
        go_region
        have d1 := HO.out.1.drew
        have d2 := HO.out.2.2.1.drew
        have d3 := HO.out.2.2.2.1.drew
        have HD := Lib.hid (And.intro d1 (And.intro d2 d3))
        clear d1 d2 d3
        generalize wr.drew = wd at HD
        go_wp2_with (first | (at_builtin; refine wpList_append_own _ rfl (.tmp 29) (.tmp 31) 22 rfl w.heap.size 23 i1 (.slice none 0 0) 1 24 Tryd.underlying22 HJ.out.1 HJ.out.2.1 HJ.out.2.2.1 HJ.out.2.2.2 rfl (by decide) u4 k cells rfl (HD.out.1.alloc _) ⟨wd.heap.size, 0, none⟩ 1 1 [Value.slice none 0 0] rfl rfl (new_one wd _ 23) (new_slice _ _ _) (by unfold maxLen; omega) (by omega) (by have := HD.out.2.2.size; simp; omega) ?_; intro v2 w2 ho2 hg2 _; have HB2 := Lib.hid ((HD.out.2.2.alloc HD.out.2.2.size _).grown hg2 (by have := HD.out.2.2.size; simp; omega) (fun q hq => own_ge HD.out.1 q hq)); have HA2 := Lib.hid (own_grown (HD.out.2.1.alloc _) (HD.out.1.alloc _) (by decide) hg2); have HO2 := Lib.hid ho2; clear ho2 hg2) | (at_builtin; go_loud (refine wpList_append_own_none rfl (.tmp 33) (.tmp 34) 23 rfl w.heap.size 5 i0 1 Tryd.underlying23 HI.out.1 u5 ((cutT xs).take k).flatten.length (Vb ((cutT xs).take k).flatten) rfl HA2.out rfl ?_)))
        go_roundw
        case rel =>
          have hf := cut_flat HO.out.2.2.2.2.2.1
          rw [List.take_nil, List.append_nil] at hf
          exact ⟨k + 1, by omega, by omega, by go_num, ⟨_, HO2.out, HO.out.2.1.snoc HO.out.2.2.2.2.2.2 HO.out.2.2.2.2.2.1 HK.out⟩, by rw [hf]; exact HA2.out, HB2.out⟩
        case measure => simp [intOf]; omega
      | some a, HO =>
        rcases Nat.lt_or_ge 300 m with hm | hm
        · have htake : TxtN w w.heap.size (some a) 300 cc (x.take 300) := ⟨HO.out.2.2.2.2.1.txt.take 300 (by omega), fun h => by cases h⟩
          have HK := Lib.hid htake
          clear htake
          go_wp2_with fail
          go_region
          have d1 := HO.out.1.drew
          have d2 := HO.out.2.2.1.drew
          have d3 := HO.out.2.2.2.1.drew
          have HD := Lib.hid (And.intro d1 (And.intro d2 d3))
          clear d1 d2 d3
          generalize wr.drew = wd at HD
          go_wp2_with (first | (at_builtin; refine wpList_append_own _ rfl (.tmp 29) (.tmp 31) 22 rfl w.heap.size 23 i1 (.slice none 0 0) 1 24 Tryd.underlying22 HJ.out.1 HJ.out.2.1 HJ.out.2.2.1 HJ.out.2.2.2 rfl (by decide) u4 k cells rfl (HD.out.1.alloc _) ⟨wd.heap.size, 0, none⟩ 1 1 [Value.slice (some a) 300 cc] rfl rfl (new_one wd _ 23) (new_slice _ _ _) (by unfold maxLen; omega) (by omega) (by have := HD.out.2.2.size; simp; omega) ?_; intro v2 w2 ho2 hg2 _; have HB2 := Lib.hid ((HD.out.2.2.alloc HD.out.2.2.size _).grown hg2 (by have := HD.out.2.2.size; simp; omega) (fun q hq => own_ge HD.out.1 q hq)); have HA2 := Lib.hid (own_grown (HD.out.2.1.alloc _) (HD.out.1.alloc _) (by decide) hg2); have HO2 := Lib.hid ho2; clear ho2 hg2) | (at_builtin; go_loud (refine wpList_append_own _ rfl (.tmp 33) (.tmp 34) 23 rfl w.heap.size 5 i0 (.int .u8 0) 1 1 Tryd.underlying23 HI.out.1 HI.out.2.1 HI.out.2.2.1 HI.out.2.2.2 rfl (by decide) u5 ((cutT xs).take k).flatten.length (Vb ((cutT xs).take k).flatten) rfl HA2.out a 300 cc (Vb (x.take 300)) rfl (by rw [Vb_length, List.length_take]; omega) (txt_cells (HK.out.txt.below HB2.out (Nat.le_refl _))) (Vb_oneCell _) (by have := HX.out; unfold maxLen; omega) (by have := HX.out; omega) HB2.out.size ?_); intro va3 w3 ho3 hg3 _))
          go_roundw
          case rel =>
            have hf := cut_flat HO.out.2.2.2.2.2.1
            have hlx : (x.take 300).length = 300 := by rw [List.length_take]; omega
            refine ⟨k + 1, by omega, by omega, by go_num, ⟨_, own_grown HO2.out HA2.out (by decide) hg3, HO.out.2.1.snoc HO.out.2.2.2.2.2.2 HO.out.2.2.2.2.2.1 HK.out⟩, ?_, HB2.out.grown hg3 HB2.out.size (fun q hq => own_ge HA2.out q hq)⟩
            rw [hf, List.length_append, hlx, Vb_append]
            exact ho3
          case measure => simp [intOf]; omega
        · have htake : TxtN w w.heap.size (some a) m cc (x.take 300) := (by rw [List.take_of_length_le (by omega)]; exact HO.out.2.2.2.2.1)
          have HK := Lib.hid htake
          clear htake
          go_wp2_with fail
          go_region
          have d1 := HO.out.1.drew
          have d2 := HO.out.2.2.1.drew
          have d3 := HO.out.2.2.2.1.drew
          have HD := Lib.hid (And.intro d1 (And.intro d2 d3))
          clear d1 d2 d3
          generalize wr.drew = wd at HD
          go_wp2_with (first | (at_builtin; refine wpList_append_own _ rfl (.tmp 29) (.tmp 31) 22 rfl w.heap.size 23 i1 (.slice none 0 0) 1 24 Tryd.underlying22 HJ.out.1 HJ.out.2.1 HJ.out.2.2.1 HJ.out.2.2.2 rfl (by decide) u4 k cells rfl (HD.out.1.alloc _) ⟨wd.heap.size, 0, none⟩ 1 1 [Value.slice (some a) m cc] rfl rfl (new_one wd _ 23) (new_slice _ _ _) (by unfold maxLen; omega) (by omega) (by have := HD.out.2.2.size; simp; omega) ?_; intro v2 w2 ho2 hg2 _; have HB2 := Lib.hid ((HD.out.2.2.alloc HD.out.2.2.size _).grown hg2 (by have := HD.out.2.2.size; simp; omega) (fun q hq => own_ge HD.out.1 q hq)); have HA2 := Lib.hid (own_grown (HD.out.2.1.alloc _) (HD.out.1.alloc _) (by decide) hg2); have HO2 := Lib.hid ho2; clear ho2 hg2) | (at_builtin; go_loud (refine wpList_append_own _ rfl (.tmp 33) (.tmp 34) 23 rfl w.heap.size 5 i0 (.int .u8 0) 1 1 Tryd.underlying23 HI.out.1 HI.out.2.1 HI.out.2.2.1 HI.out.2.2.2 rfl (by decide) u5 ((cutT xs).take k).flatten.length (Vb ((cutT xs).take k).flatten) rfl HA2.out a m cc (Vb (x.take 300)) rfl (by rw [Vb_length, List.length_take]; omega) (txt_cells (HK.out.txt.below HB2.out (Nat.le_refl _))) (Vb_oneCell _) (by have := HX.out; unfold maxLen; omega) (by have := HX.out; omega) HB2.out.size ?_); intro va3 w3 ho3 hg3 _))
          go_roundw
          case rel =>
            have hf := cut_flat HO.out.2.2.2.2.2.1
            have hlx : (x.take 300).length = m := by rw [List.length_take]; omega
            refine ⟨k + 1, by omega, by omega, by go_num, ⟨_, own_grown HO2.out HA2.out (by decide) hg3, HO.out.2.1.snoc HO.out.2.2.2.2.2.2 HO.out.2.2.2.2.2.1 HK.out⟩, ?_, HB2.out.grown hg3 HB2.out.size (fun q hq => own_ge HA2.out q hq)⟩
            rw [hf, List.length_append, hlx, Vb_append]
            exact ho3
          case measure => simp [intOf]; omega
    · have hend : (cutT xs).take k = cutT xs := List.take_of_length_le (by unfold cutT; simp [hl]; omega)
      have hlen : (cutT xs).length = k := by unfold cutT; simp [hl]; omega
      rw [hend] at howa
      have hfin : OTexts w.heap.size wr u4 (cutT xs) := by
        refine ⟨cells, by rw [hlen]; exact hown, fun j x hx => ?_⟩
        have hj : j < k := by have := (List.getElem?_eq_some_iff.1 hx).1; omega
        obtain ⟨A, m, cc, h1, h2⟩ := hcells j x hj hx
        exact ⟨A, m, cc, h1, (h2.below hbel (Nat.le_refl _)).at' hbel.size⟩
      have HO := Lib.hid (And.intro hfin (And.intro howa hbel))
      clear hown hcells howa hbel hend hlen hfin
      by_cases hkn2 : k < n
      · have h12 : ¬ k < 12 := by omega
        go_wp2_with fail
        go_ret2
        exact ⟨_, _, rfl, HO.out.1, HO.out.2.1, HO.out.2.2⟩
      · go_wp2_with fail
        go_ret2
        exact ⟨_, _, rfl, HO.out.1, HO.out.2.1, HO.out.2.2⟩

end Go.Proofs.YtkblpcegdfhmoaaDoor
