/-
  Texts: at most twelve of the texts, of at most 300 bytes, and all of them. Condition: the texts are known.
-/
import Derived.Test.YtfkdpndcoegfpaaDoorM2
import Derived.Laws.AppendOwnNone
import Derived.OwnWalk
section
set_option maxRecDepth 100000
set_option linter.unusedSimpArgs false
set_option linter.unusedVariables false
namespace Go.Proofs.YtfkdpndcoegfpaaDoor
open Go.RowKit

def cutT (xs : List (List B8)) : List (List B8) := (xs.take 12).map (·.take 300)

/-- A text that is nil, or has an address. -/
structure TxtN (w : World) (p : Nat) (A : Option Addr) (n c : Nat) (bs : List B8) : Prop where
  txt : Txt w p A n c bs
  nil : A = none → n = 0 ∧ c = 0
structure TxtsN (w : World) (p : Nat) (L : Option Addr) (n : Nat) (xs : List (List B8)) : Prop where
  len : xs.length = n
  cells : 0 < n → ∃ g o, L = some ⟨g, o, none⟩ ∧ g ≠ p ∧ ∀ i x, xs[i]? = some x → ∃ A k c, w.cell? ⟨g, o + i, none⟩ = some (.slice A k c) ∧ TxtN w p A k c x
theorem TxtsN.txts {w : World} {p : Nat} {L : Option Addr} {n : Nat} {xs : List (List B8)} (h : TxtsN w p L n xs) : Txts w p L n xs := by
  refine ⟨h.len, fun hn => ?_⟩
  obtain ⟨g, o, hL, hg, hc⟩ := h.cells hn
  refine ⟨g, o, hL, hg, fun i x hx => ?_⟩
  obtain ⟨A, k, c, h0, ht⟩ := hc i x hx
  exact ⟨A, k, c, h0, ht.txt⟩
theorem TxtN.at {w : World} {p q : Nat} {A : Option Addr} {n c : Nat} {bs : List B8} (h : TxtN w p A n c bs) (hq : w.heap.size ≤ q) : TxtN w q A n c bs := ⟨h.txt.at hq, h.nil⟩
theorem TxtN.below {w w' : World} {p B : Nat} {A : Option Addr} {n c : Nat} {bs : List B8} (h : TxtN w p A n c bs) (ho : Below B w w') (hB : w.heap.size ≤ B) : TxtN w' p A n c bs := ⟨h.txt.below ho hB, h.nil⟩
theorem TxtN.at' {w w' : World} {p : Nat} {A : Option Addr} {n c : Nat} {bs : List B8} (h : TxtN w' p A n c bs) (_hq : w.heap.size ≤ w'.heap.size) : TxtN w' w'.heap.size A n c bs := h.at (Nat.le_refl _)
theorem Txt.take {w : World} {p : Nat} {A : Option Addr} {n c : Nat} {bs : List B8} (h : Txt w p A n c bs) (k : Nat) (hk : k ≤ n) : Txt w p A k c (bs.take k) := by
  refine ⟨by rw [List.length_take, h.len]; omega, by have := h.cap; omega, h.capm, fun h0 => ?_⟩
  obtain ⟨g, o, hA, hg, hc⟩ := h.cells (by omega)
  refine ⟨g, o, hA, hg, fun j hj => ?_⟩
  rw [hc j (by omega)]
  simp [List.getD_eq_getElem?_getD, hj]
/-- Texts in memory of the call's own. -/
def OTexts (B : Nat) (w : World) (v : Value) (X : List (List B8)) : Prop := ∃ cells : List Value, w.ownsRow B 23 1 v X.length cells ∧ ∀ (j : Nat) (x : List B8), X[j]? = some x → ∃ A k c, cells[j]? = some (Value.slice A k c) ∧ TxtN w w.heap.size A k c x

theorem own_own_ne {w : World} {B B' e e' s s' n n' : Nat} {v v' : Value} {xs xs' : List Value} (h : w.ownsRow B e s v n xs) (h' : w.ownsRow B' e' s' v' n' xs') (hne : e ≠ e') : ∀ g, v.ownBlock = some g → v'.ownBlock ≠ some g := by
  intro g hg hg'
  rcases h.2 with ⟨rfl, _⟩ | ⟨b, cap, cur, rfl, _, hh, _⟩
  · simp [Value.ownBlock] at hg
  · rcases h'.2 with ⟨rfl, _⟩ | ⟨b', cap', cur', rfl, _, hh', _⟩
    · simp [Value.ownBlock] at hg'
    · have e1 : b = g := by simpa [Value.ownBlock] using hg
      have e2 : b' = g := by simpa [Value.ownBlock] using hg'
      subst e1 e2
      rw [hh] at hh'
      injection hh' with hh'
      injection hh' with _ ht
      exact hne ht
theorem own_ge {w : World} {B e s n : Nat} {v : Value} {xs : List Value} (h : w.ownsRow B e s v n xs) : ∀ g, v.ownBlock = some g → B ≤ g := by
  intro g hg
  rcases h.2 with ⟨rfl, _⟩ | ⟨b, cap, cur, rfl, hb, _⟩
  · simp [Value.ownBlock] at hg
  · have e1 : b = g := by simpa [Value.ownBlock] using hg
    omega
theorem own_grown {w w' : World} {B e e' s s' n n' : Nat} {v v' : Value} {xs xs' : List Value} (h : w.ownsRow B e s v n xs) (h' : w.ownsRow B e' s' v' n' xs') (hne : e ≠ e') (hg : w.grownBy w' v'.ownBlock) : w'.ownsRow B e s v n xs := by
  refine ownsRow_only (S := v'.ownBlock.toList) h ((Only.refl _ _).grown hg (fun k hk => .inl (by simp [hk]))) ?_
  intro k hk hm
  exact own_own_ne h h' hne k hk (by simpa using hm)

theorem new_slice (A : Option Addr) (m c : Nat) : ∀ u ∈ [Value.slice A m c], u.oneCell' = true := by
  intro u hu
  simp at hu
  subst hu
  rfl
theorem txt_cells {w : World} {p : Nat} {a : Addr} {n c : Nat} {bs : List B8} (h : Txt w p (some a) n c bs) : ∀ j u, (Vb bs)[j]? = some u → w.cell? (a.add j) = some u := by
  intro j u hu
  rw [Vb_get] at hu
  cases hx : bs[j]? with
  | none => rw [hx] at hu; cases hu
  | some x =>
    rw [hx] at hu
    simp only [Option.map_some, Option.some.injEq] at hu
    subst hu
    have hj : j < n := by have := (List.getElem?_eq_some_iff.1 hx).1; have := h.len; omega
    obtain ⟨g, o, hA, hg, hc⟩ := h.cells (by omega)
    simp only [Option.some.injEq] at hA
    subst hA
    rw [Addr.add_mid, hc j hj, List.getD_eq_getElem?_getD, hx]
    rfl
theorem cut_get {xs : List (List B8)} {k : Nat} (h1 : k < xs.length) (h2 : k < 12) : (cutT xs)[k]? = some (xs[k].take 300) := by
  unfold cutT
  rw [List.getElem?_map, List.getElem?_take, if_pos h2, List.getElem?_eq_getElem h1]
  rfl
theorem cut_flat {xs : List (List B8)} {k : Nat} {x : List B8} (h : (cutT xs)[k]? = some x) : ((cutT xs).take (k + 1)).flatten = ((cutT xs).take k).flatten ++ x := take_flat h
theorem cut_small (xs : List (List B8)) (k : Nat) (hk : k ≤ 12) : ((cutT xs).take k).flatten.length ≤ 300 * k := by
  induction k with
  | zero => simp
  | succ k ih =>
    cases hx : (cutT xs)[k]? with
    | none =>
      rw [List.getElem?_eq_none_iff] at hx
      rw [List.take_of_length_le (by omega)]
      have := ih (by omega)
      rw [List.take_of_length_le hx] at this
      omega
    | some x =>
      rw [cut_flat hx, List.length_append]
      have := ih (by omega)
      have hl : x.length ≤ 300 := by
        have hm := List.mem_of_getElem? hx
        unfold cutT at hm
        obtain ⟨y, _, rfl⟩ := List.mem_map.1 hm
        rw [List.length_take]
        omega
      omega

/-- The cells gathered so far. -/
def Gathered (w0 : World) (X : List (List B8)) (k : Nat) (cells : List Value) : Prop := ∀ j x, j < k → X[j]? = some x → ∃ A m c, cells[j]? = some (Value.slice A m c) ∧ TxtN w0 w0.heap.size A m c x
theorem Gathered.snoc {w0 : World} {X : List (List B8)} {k : Nat} {cells : List Value} (h : Gathered w0 X k cells) (hl : cells.length = k) {A : Option Addr} {m c : Nat} {x : List B8} (hx : X[k]? = some x) (ht : TxtN w0 w0.heap.size A m c x) : Gathered w0 X (k + 1) (cells ++ [Value.slice A m c]) := by
  intro j y hj hy
  by_cases hjk : j < k
  · obtain ⟨A', m', c', h1, h2⟩ := h j y hjk hy
    exact ⟨A', m', c', by rw [List.getElem?_append_left (by omega)]; exact h1, h2⟩
  · obtain rfl : j = k := by omega
    rw [hx] at hy
    injection hy with hy
    subst hy
    exact ⟨A, m, c, by rw [List.getElem?_append_right (by omega), hl]; simp, ht⟩

def TextsRel (w : World) (xs : List (List B8)) (n : Nat) (i v va : Value) (wr : World) : Prop := ∃ k : Nat, k ≤ n ∧ k ≤ 12 ∧ i = .int .i64 k ∧ (∃ cells, wr.ownsRow w.heap.size 23 1 v k cells ∧ Gathered w (cutT xs) k cells) ∧
  wr.ownsRow w.heap.size 5 1 va ((cutT xs).take k).flatten.length (Vb ((cutT xs).take k).flatten) ∧ Below w.heap.size w wr

end Go.Proofs.YtfkdpndcoegfpaaDoor
end

/-
  Framed, and the document's own Frame. Conditions: the texts are known, of at most 300 bytes; the constants lie in their variable.
-/

section
set_option maxRecDepth 100000
set_option linter.unusedSimpArgs false
set_option linter.unusedVariables false
namespace Go.Proofs.YtfkdpndcoegfpaaDoor
open Go.RowKit

/-- A length as four bytes. -/
def fr (n : Nat) : List B8 := [BitVec.ofNat 8 (n / 16777216), BitVec.ofNat 8 (n / 65536), BitVec.ofNat 8 (n / 256), BitVec.ofNat 8 n]
def framesOf (X : List (List B8)) : List B8 := (X.map fun x => fr x.length ++ x).flatten
theorem frames_take {X : List (List B8)} {k : Nat} {x : List B8} (h : X[k]? = some x) : framesOf (X.take (k + 1)) = framesOf (X.take k) ++ fr x.length ++ x := by
  obtain ⟨hi, rfl⟩ := List.getElem?_eq_some_iff.1 h
  unfold framesOf
  rw [List.take_succ_eq_append_getElem hi, List.map_append, List.flatten_append]
  simp
theorem frames_small (X : List (List B8)) (h : ∀ x ∈ X, x.length ≤ 300) : (framesOf X).length ≤ 304 * X.length := by
  induction X with
  | nil => simp [framesOf]
  | cons x X ih =>
    have h1 := ih fun y hy => h y (by simp [hy])
    have h2 := h x (by simp)
    unfold framesOf at *
    simp only [List.map_cons, List.flatten_cons, List.length_append, List.length_cons]
    have : (fr x.length).length = 4 := rfl
    omega
theorem frames_small_take (X : List (List B8)) (h : ∀ x ∈ X, x.length ≤ 300) (k : Nat) (hk : k ≤ X.length) : (framesOf (X.take k)).length ≤ 304 * k := by
  have := frames_small (X.take k) fun x hx => h x (List.mem_of_mem_take hx)
  rw [List.length_take] at this
  omega
theorem nb_of (n : Nat) : nb (BitVec.ofNat 8 n) = ((n % 256 : Nat) : Int) := by
  unfold nb
  rw [BitVec.toNat_ofNat]
theorem fr_cells (n : Nat) (hn : n < 4294967296) : [Value.int .u8 ((n : Int) / 16777216), .int .u8 ((n : Int) / 65536 % 256), .int .u8 ((n : Int) / 256 % 256), .int .u8 ((n : Int) % 256)] = Vb (fr n) := by
  unfold fr Vb
  simp only [List.map_cons, List.map_nil, nb_of]
  have h0 : (n : Int) / 16777216 = ((n / 16777216 % 256 : Nat) : Int) := by omega
  have h1 : (n : Int) / 65536 % 256 = ((n / 65536 % 256 : Nat) : Int) := by omega
  have h2 : (n : Int) / 256 % 256 = ((n / 256 % 256 : Nat) : Int) := by omega
  have h3 : (n : Int) % 256 = ((n % 256 : Nat) : Int) := by omega
  rw [h0, h1, h2, h3]

theorem slice4 (b : Nat) (W : World) : (Instr.sliceAt 119 (.pointer (some ⟨b, 0, none⟩)) none none none).run Tryd.prog W = .ok (.slice (some ⟨b, 0, none⟩) 4 4) W := by
  have hl : Tryd.prog.arrayLen 119 = 4 := by kernel_rfl
  have he : Tryd.prog.elem 119 = 5 := by kernel_rfl
  have hs : (sizeOf 5).run Tryd.prog W = .ok 1 W := by kernel_rfl
  have h := run_sliceAt_array_all (P := Tryd.prog) W 119 ⟨b, 0, none⟩ (by rw [hl, he]; exact Tryd.underlying119)
  rw [h, he, hs, hl]
  simp only [Result.andThen_ok, slicedAt]
  rw [if_neg (by omega), Addr.add_mid]
theorem info62 : (Tryd.prog.info? 119).map (·.size) = some 4 := by kernel_rfl

theorem Txt.away {w0 w : World} {p q : Nat} {A : Option Addr} {n c : Nat} {bs : List B8} (h : Txt w p A n c bs) (hq : q = w0.heap.size + 1) (h0 : Txt w0 p A n c bs) : Txt w q A n c bs := by
  refine ⟨h.len, h.cap, h.capm, fun hn => ?_⟩
  obtain ⟨g, o, hA, hg, hc⟩ := h.cells hn
  obtain ⟨g', o', hA', _, hc'⟩ := h0.cells hn
  rw [hA] at hA'
  simp only [Option.some.injEq, Addr.mk.injEq, and_true] at hA'
  obtain ⟨rfl, rfl⟩ := hA'
  have : g < w0.heap.size := World.block_lt_of_cell? w0 _ (hc' 0 hn)
  exact ⟨g, o, hA, by omega, hc⟩

set_option maxHeartbeats 1000000 in
set_option maxRecDepth 100000 in
theorem framed_any (ks : List B32) (w : World) (L : Option Addr) (n c : Nat) (xs : List (List B8)) (hK : Roots ks w) (ht : Txts w w.heap.size L n xs) (hn : n ≤ 40) (hsm : ∀ x ∈ xs, x.length ≤ 300) :
    Calls Tryd.prog 54 #[.slice L n c] w fun e w' => e = .returned (.agg (Vb (sha ks (framesOf xs))).toArray) ∧ Below w.heap.size w w' := by
  have hpos := hK.pos
  have hz := zero44
  have hb : Below w.heap.size w ((w.alloc (.cells (List.replicate 32 (Value.int .u8 0)).toArray 80)).alloc (.cells zeroCells.toArray 118)) := ((Below.refl _ _).alloc (Nat.le_refl _) _).alloc (by simp) _
  have hr := (Blk.new w 80 (List.replicate 32 (.int .u8 0))).alloc (.cells zeroCells.toArray 118)
  have h1 : IsStr ks ((w.alloc (.cells (List.replicate 32 (Value.int .u8 0)).toArray 80)).alloc (.cells zeroCells.toArray 118)) (w.heap.size + 1) [] := zero_str ks (blk_two w 80 118 (List.replicate 32 (.int .u8 0)) zeroCells)
  have H := Lib.hid (And.intro hb (And.intro hr (And.intro h1 (And.intro hK (And.intro ht hsm)))))
  clear hb hr h1 hK ht hsm
  go_enter Tryd.func54, Tryd.ntmps54
  go_wp2_with fail
  go_loopw [9] (fun i wr => ∃ k : Nat, k ≤ n ∧ i = .int .i64 k ∧ IsStr ks wr (w.heap.size + 1) (framesOf (xs.take k)) ∧ Blk wr w.heap.size 80 (List.replicate 32 (.int .u8 0)) ∧ Below w.heap.size w wr) (fun i _ => n - (intOf i).toNat)
  case atStart => exact ⟨0, by omega, rfl, H.out.2.2.1, H.out.2.1, H.out.1⟩
  case round =>
    obtain ⟨k, hk, rfl, hs, hres, hbel⟩ := hrel
    have hl := H.out.2.2.2.2.1.len
    have hsk := frames_small_take xs H.out.2.2.2.2.2 k (by omega)
    by_cases hkn : k < n
    · obtain ⟨g, o, rfl, hgp, hc⟩ := H.out.2.2.2.2.1.cells (by omega)
      obtain ⟨A, m, cc, hcell, htx⟩ := hc k (xs[k]'(by omega)) (List.getElem?_eq_getElem _)
      have hcw := (hbel.cell (World.block_lt_of_cell? w _ hcell)).trans hcell
      have hft := frames_take (X := xs) (k := k) (List.getElem?_eq_getElem (by omega))
      have hm3 := H.out.2.2.2.2.2 _ (List.getElem_mem (l := xs) (n := k) (by omega))
      generalize xs[k]'(by omega) = x at htx hft hm3
      have hml := htx.len
      rw [hml] at hm3
      have HO := Lib.hid (And.intro hs (And.intro hres (And.intro hbel (And.intro htx hft))))
      clear hs hres hbel htx hft hc hcell
      go_wp2_with fail
      refine (frame_any wr m (by omega)).mono ?_
      rintro e w1 ⟨rfl, hb1⟩
      have HB1 := Lib.hid hb1
      clear hb1
      have hs4 := slice4
      go_wp2_with (refine wpList_store_blk rfl 119 (.tmp 6) (.tmp 15) rfl w1.heap.size 0 (Vb (fr m)) rfl (by rw [← fr_cells m (by omega)]; rfl) (Blk.new w1 119 (List.replicate 4 (.int .u8 0))) (by simp [Vb_length, fr]) (info62.trans (by simp [Vb_length, fr])) (Vb_oneCell _) ?_; intro w2 hA hO)
      rw [over_whole (by simp [Vb_length, fr])] at hA
      have hp1 := HO.out.1.lt
      have hs1 := HB1.out.size
      have hA1 : Below w1.heap.size w1 w2 := ((Below.refl _ _).alloc (Nat.le_refl _) _).trans (hO.below (B := w1.heap.size) (by simp) (by simp))
      have hB2 : Below wr.heap.size wr w2 := HB1.out.trans (hA1.mono hs1)
      have ht2 : Txt w2 (w.heap.size + 1) (some ⟨w1.heap.size, 0, none⟩) 4 4 (fr m) := by
        refine ⟨rfl, Nat.le_refl _, by unfold maxLen; omega, fun _ => ⟨w1.heap.size, 0, rfl, by omega, fun j hj => ?_⟩⟩
        rw [Nat.zero_add, hA.cell, Vb_get, List.getD_eq_getElem?_getD, List.getElem?_eq_getElem (by exact hj)]
        rfl
      have HW2 := Lib.hid (And.intro hB2 ht2)
      clear hA hO hA1 hB2 ht2
      refine (tell_any ks w2 (w.heap.size + 1) (framesOf (xs.take k)) (some ⟨w1.heap.size, 0, none⟩) 4 4 (fr m) (by omega) (H.out.2.2.2.1.below (HO.out.2.2.1.trans (HW2.out.1.mono HO.out.2.2.1.size)) hpos) (HO.out.1.below HW2.out.1 hp1) HW2.out.2 (by omega)).mono ?_
      rintro e w3 ⟨rfl, hs3, ho3⟩
      have hB3 : Below w.heap.size w w3 := (HO.out.2.2.1.trans (HW2.out.1.mono HO.out.2.2.1.size)).trans (ho3.below (B := w.heap.size) (HO.out.2.2.1.trans (HW2.out.1.mono HO.out.2.2.1.size)).size (by simp))
      have hR3 := (HO.out.2.1.below HW2.out.1 HO.out.2.1.lt).only ho3 (by simp)
      have H3 := Lib.hid (And.intro hs3 (And.intro hB3 hR3))
      clear hs3 ho3 hB3 hR3
      go_wp2_with fail
      have hf4 : (fr m).length = 4 := rfl
      refine (tell_any ks w3 (w.heap.size + 1) (framesOf (xs.take k) ++ fr m) A m cc x (by omega) (H.out.2.2.2.1.below H3.out.2.1 hpos) H3.out.1 ((HO.out.2.2.2.1.below H3.out.2.1 (Nat.le_refl _)).away (by rfl) HO.out.2.2.2.1) (by rw [List.length_append, hf4]; omega)).mono ?_
      rintro e w4 ⟨rfl, hs4', ho4⟩
      have hB4 : Below w.heap.size w w4 := H3.out.2.1.trans (ho4.below (B := w.heap.size) H3.out.2.1.size (by simp))
      have hR4 := H3.out.2.2.only ho4 (by simp)
      have H4 := Lib.hid (And.intro hs4' (And.intro hB4 hR4))
      clear hs4' ho4 hB4 hR4
      go_wp2_with fail
      go_roundw
      case rel =>
        refine ⟨k + 1, by omega, by go_num, ?_, H4.out.2.2, H4.out.2.1⟩
        rw [HO.out.2.2.2.2, hml]
        exact H4.out.1
      case measure => simp [intOf]; omega
    · obtain rfl : k = n := by omega
      rw [List.take_of_length_le (by omega)] at hs hsk
      have HO := Lib.hid (And.intro hs (And.intro hres hbel))
      clear hs hres hbel
      go_wp2_with fail
      refine (sum_any ks wr (some ⟨w.heap.size + 1, 0, none⟩) (framesOf xs) (H.out.2.2.2.1.below HO.out.2.2 hpos) (.inr ⟨_, rfl, HO.out.1⟩) (by omega)).mono ?_
      rintro e w3 ⟨rfl, hb3⟩
      have hB3 : Below w.heap.size w w3 := HO.out.2.2.trans (hb3.mono HO.out.2.2.size)
      have hR3 := HO.out.2.1.below hb3 HO.out.2.1.lt
      have H3 := Lib.hid (And.intro hB3 hR3)
      clear hb3 hB3 hR3
      go_wp2_with (refine wpList_store_blk rfl 80 (.tmp 2) (.tmp 21) rfl w.heap.size 0 (Vb (sha ks (framesOf xs))) rfl rfl H3.out.2 (by simp [Vb_length, sha_length]) (info31.trans (by simp [Vb_length, sha_length])) (Vb_oneCell _) ?_; intro w5 hA hO)
      rw [over_whole (by simp [Vb_length, sha_length])] at hA
      refine bodyPost_ret (v := .agg (Vb (sha ks (framesOf xs))).toArray) ?_ rfl ⟨rfl, ?_⟩
      · exact ret_cell rfl rfl (run_loadVar_mid _ _ 0 80 _ _ hA.range Tryd.underlying80 rfl (info31.trans (by simp [Vb_length, sha_length])))
      · exact H3.out.1.trans (hO.below (B := w.heap.size) H3.out.1.size (by simp))

end Go.Proofs.YtfkdpndcoegfpaaDoor
end

/-
  The document's own Frame. Condition: the texts are known, of at most 300 bytes.
-/

section
set_option maxRecDepth 100000
set_option linter.unusedSimpArgs false
set_option linter.unusedVariables false
namespace Go.Proofs.YtfkdpndcoegfpaaDoor
open Go.RowKit

theorem fr_small (n : Nat) (hn : n ≤ 300) : [Value.int .u8 ((n : Int) / 16777216), .int .u8 ((n : Int) / 65536), .int .u8 ((n : Int) / 256), .int .u8 ((n : Int) % 256)] = Vb (fr n) := by
  rw [← fr_cells n (by omega)]
  have h1 : (n : Int) / 65536 = (n : Int) / 65536 % 256 := by omega
  have h2 : (n : Int) / 256 = (n : Int) / 256 % 256 := by omega
  rw [← h1, ← h2]
theorem four_one (a b c d : Int) : ∀ u ∈ [Value.int .u8 a, .int .u8 b, .int .u8 c, .int .u8 d], u.oneCell' = true := by
  intro u hu
  simp only [List.mem_cons, List.not_mem_nil, or_false] at hu
  rcases hu with rfl | rfl | rfl | rfl <;> rfl
theorem new_row (w : World) (cs : List Value) (t : TypeId) : ∀ j u, cs[j]? = some u → (w.alloc (.cells cs.toArray t)).cell? ((⟨w.heap.size, 0, none⟩ : Addr).add j) = some u := by
  intro j u hu
  rw [Addr.add_mid, Nat.zero_add, (Blk.new w t cs).cell j, hu]

end Go.Proofs.YtfkdpndcoegfpaaDoor
end
