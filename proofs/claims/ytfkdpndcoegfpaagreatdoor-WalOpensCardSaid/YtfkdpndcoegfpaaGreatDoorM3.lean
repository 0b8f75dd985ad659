/-
  Texts: at most twelve of the texts, of at most 300 bytes, and all of them. Condition: the texts are known.
-/
import Derived.Test.YtfkdpndcoegfpaaGreatDoorM2
import Derived.Laws.AppendOwnNone
import Derived.OwnWalk
import Derived.Test.YtfkdpndcoegfpaaGreatDoorM1
section
set_option maxRecDepth 100000
set_option linter.unusedSimpArgs false
set_option linter.unusedVariables false
namespace Go.Proofs.YtfkdpndcoegfpaaGreatDoor
open Go.RowKit

def cutT (xs : List (List B8)) : List (List B8) := (xs.take 12).map (·.take 300)

/-- A text that is nil, or has an address. -/
structure TxtN (w : World) (p : Nat) (A : Option Addr) (n c : Nat) (bs : List B8) : Prop where
  txt : Txt w p A n c bs
  nil : A = none → n = 0 ∧ c = 0
structure TxtsN (w : World) (p : Nat) (L : Option Addr) (n : Nat) (xs : List (List B8)) : Prop where
  len : xs.length = n
  cells : 0 < n → ∃ g o, L = some ⟨g, o, none⟩ ∧ g ≠ p ∧ ∀ i x, xs[i]? = some x → ∃ A k c, w.cell? ⟨g, o + i, none⟩ = some (.slice A k c) ∧ TxtN w p A k c x
theorem TxtsN.txts {w : World} {p : Nat} {L : Option Addr} {n : Nat} {xs : List (List B8)} (h : TxtsN w p L n xs) : Txts w p L n xs := by
  refine ⟨h.len, fun hn => ?_⟩
  obtain ⟨g, o, hL, hg, hc⟩ := h.cells hn
  refine ⟨g, o, hL, hg, fun i x hx => ?_⟩
  obtain ⟨A, k, c, h0, ht⟩ := hc i x hx
  exact ⟨A, k, c, h0, ht.txt⟩
theorem TxtN.at {w : World} {p q : Nat} {A : Option Addr} {n c : Nat} {bs : List B8} (h : TxtN w p A n c bs) (hq : w.heap.size ≤ q) : TxtN w q A n c bs := ⟨h.txt.at hq, h.nil⟩
theorem TxtN.below {w w' : World} {p B : Nat} {A : Option Addr} {n c : Nat} {bs : List B8} (h : TxtN w p A n c bs) (ho : Below B w w') (hB : w.heap.size ≤ B) : TxtN w' p A n c bs := ⟨h.txt.below ho hB, h.nil⟩
theorem TxtN.at' {w w' : World} {p : Nat} {A : Option Addr} {n c : Nat} {bs : List B8} (h : TxtN w' p A n c bs) (_hq : w.heap.size ≤ w'.heap.size) : TxtN w' w'.heap.size A n c bs := h.at (Nat.le_refl _)
theorem Txt.take {w : World} {p : Nat} {A : Option Addr} {n c : Nat} {bs : List B8} (h : Txt w p A n c bs) (k : Nat) (hk : k ≤ n) : Txt w p A k c (bs.take k) := by
  refine ⟨by rw [List.length_take, h.len]; omega, by have := h.cap; omega, h.capm, fun h0 => ?_⟩
  obtain ⟨g, o, hA, hg, hc⟩ := h.cells (by omega)
  refine ⟨g, o, hA, hg, fun j hj => ?_⟩
  rw [hc j (by omega)]
  simp [List.getD_eq_getElem?_getD, hj]
/-- Texts in memory of the call's own. -/
def OTexts (B : Nat) (w : World) (v : Value) (X : List (List B8)) : Prop := ∃ cells : List Value, w.ownsRow B 22 1 v X.length cells ∧ ∀ (j : Nat) (x : List B8), X[j]? = some x → ∃ A k c, cells[j]? = some (Value.slice A k c) ∧ TxtN w w.heap.size A k c x

theorem own_own_ne {w : World} {B B' e e' s s' n n' : Nat} {v v' : Value} {xs xs' : List Value} (h : w.ownsRow B e s v n xs) (h' : w.ownsRow B' e' s' v' n' xs') (hne : e ≠ e') : ∀ g, v.ownBlock = some g → v'.ownBlock ≠ some g := by
  intro g hg hg'
  rcases h.2 with ⟨rfl, _⟩ | ⟨b, cap, cur, rfl, _, hh, _⟩
  · simp [Value.ownBlock] at hg
  · rcases h'.2 with ⟨rfl, _⟩ | ⟨b', cap', cur', rfl, _, hh', _⟩
    · simp [Value.ownBlock] at hg'
    · have e1 : b = g := by simpa [Value.ownBlock] using hg
      have e2 : b' = g := by simpa [Value.ownBlock] using hg'
      subst e1 e2
      rw [hh] at hh'
      injection hh' with hh'
      injection hh' with _ ht
      exact hne ht
theorem own_ge {w : World} {B e s n : Nat} {v : Value} {xs : List Value} (h : w.ownsRow B e s v n xs) : ∀ g, v.ownBlock = some g → B ≤ g := by
  intro g hg
  rcases h.2 with ⟨rfl, _⟩ | ⟨b, cap, cur, rfl, hb, _⟩
  · simp [Value.ownBlock] at hg
  · have e1 : b = g := by simpa [Value.ownBlock] using hg
    omega
theorem own_grown {w w' : World} {B e e' s s' n n' : Nat} {v v' : Value} {xs xs' : List Value} (h : w.ownsRow B e s v n xs) (h' : w.ownsRow B e' s' v' n' xs') (hne : e ≠ e') (hg : w.grownBy w' v'.ownBlock) : w'.ownsRow B e s v n xs := by
  refine ownsRow_only (S := v'.ownBlock.toList) h ((Only.refl _ _).grown hg (fun k hk => .inl (by simp [hk]))) ?_
  intro k hk hm
  exact own_own_ne h h' hne k hk (by simpa using hm)

theorem new_slice (A : Option Addr) (m c : Nat) : ∀ u ∈ [Value.slice A m c], u.oneCell' = true := by
  intro u hu
  simp at hu
  subst hu
  rfl
theorem txt_cells {w : World} {p : Nat} {a : Addr} {n c : Nat} {bs : List B8} (h : Txt w p (some a) n c bs) : ∀ j u, (Vb bs)[j]? = some u → w.cell? (a.add j) = some u := by
  intro j u hu
  rw [Vb_get] at hu
  cases hx : bs[j]? with
  | none => rw [hx] at hu; cases hu
  | some x =>
    rw [hx] at hu
    simp only [Option.map_some, Option.some.injEq] at hu
    subst hu
    have hj : j < n := by have := (List.getElem?_eq_some_iff.1 hx).1; have := h.len; omega
    obtain ⟨g, o, hA, hg, hc⟩ := h.cells (by omega)
    simp only [Option.some.injEq] at hA
    subst hA
    rw [Addr.add_mid, hc j hj, List.getD_eq_getElem?_getD, hx]
    rfl
theorem cut_get {xs : List (List B8)} {k : Nat} (h1 : k < xs.length) (h2 : k < 12) : (cutT xs)[k]? = some (xs[k].take 300) := by
  unfold cutT
  rw [List.getElem?_map, List.getElem?_take, if_pos h2, List.getElem?_eq_getElem h1]
  rfl
theorem cut_flat {xs : List (List B8)} {k : Nat} {x : List B8} (h : (cutT xs)[k]? = some x) : ((cutT xs).take (k + 1)).flatten = ((cutT xs).take k).flatten ++ x := take_flat h
theorem cut_small (xs : List (List B8)) (k : Nat) (hk : k ≤ 12) : ((cutT xs).take k).flatten.length ≤ 300 * k := by
  induction k with
  | zero => simp
  | succ k ih =>
    cases hx : (cutT xs)[k]? with
    | none =>
      rw [List.getElem?_eq_none_iff] at hx
      rw [List.take_of_length_le (by omega)]
      have := ih (by omega)
      rw [List.take_of_length_le hx] at this
      omega
    | some x =>
      rw [cut_flat hx, List.length_append]
      have := ih (by omega)
      have hl : x.length ≤ 300 := by
        have hm := List.mem_of_getElem? hx
        unfold cutT at hm
        obtain ⟨y, _, rfl⟩ := List.mem_map.1 hm
        rw [List.length_take]
        omega
      omega

/-- The cells gathered so far. -/
def Gathered (w0 : World) (X : List (List B8)) (k : Nat) (cells : List Value) : Prop := ∀ j x, j < k → X[j]? = some x → ∃ A m c, cells[j]? = some (Value.slice A m c) ∧ TxtN w0 w0.heap.size A m c x
theorem Gathered.snoc {w0 : World} {X : List (List B8)} {k : Nat} {cells : List Value} (h : Gathered w0 X k cells) (hl : cells.length = k) {A : Option Addr} {m c : Nat} {x : List B8} (hx : X[k]? = some x) (ht : TxtN w0 w0.heap.size A m c x) : Gathered w0 X (k + 1) (cells ++ [Value.slice A m c]) := by
  intro j y hj hy
  by_cases hjk : j < k
  · obtain ⟨A', m', c', h1, h2⟩ := h j y hjk hy
    exact ⟨A', m', c', by rw [List.getElem?_append_left (by omega)]; exact h1, h2⟩
  · obtain rfl : j = k := by omega
    rw [hx] at hy
    injection hy with hy
    subst hy
    exact ⟨A, m, c, by rw [List.getElem?_append_right (by omega), hl]; simp, ht⟩

def TextsRel (w : World) (xs : List (List B8)) (n : Nat) (i v va : Value) (wr : World) : Prop := ∃ k : Nat, k ≤ n ∧ k ≤ 12 ∧ i = .int .i64 k ∧ (∃ cells, wr.ownsRow w.heap.size 22 1 v k cells ∧ Gathered w (cutT xs) k cells) ∧
  wr.ownsRow w.heap.size 5 1 va ((cutT xs).take k).flatten.length (Vb ((cutT xs).take k).flatten) ∧ Below w.heap.size w wr

end Go.Proofs.YtfkdpndcoegfpaaGreatDoor
end

/-
  Framed, and the document's own Frame. Conditions: the texts are known, of at most 300 bytes; the constants lie in their variable.
-/

section
set_option maxRecDepth 100000
set_option linter.unusedSimpArgs false
set_option linter.unusedVariables false
namespace Go.Proofs.YtfkdpndcoegfpaaGreatDoor
open Go.RowKit

/-- A length as four bytes. -/
def fr (n : Nat) : List B8 := [BitVec.ofNat 8 (n / 16777216), BitVec.ofNat 8 (n / 65536), BitVec.ofNat 8 (n / 256), BitVec.ofNat 8 n]
def framesOf (X : List (List B8)) : List B8 := (X.map fun x => fr x.length ++ x).flatten
theorem frames_take {X : List (List B8)} {k : Nat} {x : List B8} (h : X[k]? = some x) : framesOf (X.take (k + 1)) = framesOf (X.take k) ++ fr x.length ++ x := by
  obtain ⟨hi, rfl⟩ := List.getElem?_eq_some_iff.1 h
  unfold framesOf
  rw [List.take_succ_eq_append_getElem hi, List.map_append, List.flatten_append]
  simp
theorem frames_small (X : List (List B8)) (h : ∀ x ∈ X, x.length ≤ 300) : (framesOf X).length ≤ 304 * X.length := by
  induction X with
  | nil => simp [framesOf]
  | cons x X ih =>
    have h1 := ih fun y hy => h y (by simp [hy])
    have h2 := h x (by simp)
    unfold framesOf at *
    simp only [List.map_cons, List.flatten_cons, List.length_append, List.length_cons]
    have : (fr x.length).length = 4 := rfl
    omega
theorem frames_small_take (X : List (List B8)) (h : ∀ x ∈ X, x.length ≤ 300) (k : Nat) (hk : k ≤ X.length) : (framesOf (X.take k)).length ≤ 304 * k := by
  have := frames_small (X.take k) fun x hx => h x (List.mem_of_mem_take hx)
  rw [List.length_take] at this
  omega
theorem nb_of (n : Nat) : nb (BitVec.ofNat 8 n) = ((n % 256 : Nat) : Int) := by
  unfold nb
  rw [BitVec.toNat_ofNat]
theorem fr_cells (n : Nat) (hn : n < 4294967296) : [Value.int .u8 ((n : Int) / 16777216), .int .u8 ((n : Int) / 65536 % 256), .int .u8 ((n : Int) / 256 % 256), .int .u8 ((n : Int) % 256)] = Vb (fr n) := by
  unfold fr Vb
  simp only [List.map_cons, List.map_nil, nb_of]
  have h0 : (n : Int) / 16777216 = ((n / 16777216 % 256 : Nat) : Int) := by omega
  have h1 : (n : Int) / 65536 % 256 = ((n / 65536 % 256 : Nat) : Int) := by omega
  have h2 : (n : Int) / 256 % 256 = ((n / 256 % 256 : Nat) : Int) := by omega
  have h3 : (n : Int) % 256 = ((n % 256 : Nat) : Int) := by omega
  rw [h0, h1, h2, h3]

theorem slice4 (b : Nat) (W : World) : (Instr.sliceAt 251 (.pointer (some ⟨b, 0, none⟩)) none none none).run Tryz.prog W = .ok (.slice (some ⟨b, 0, none⟩) 4 4) W := by
  have hl : Tryz.prog.arrayLen 251 = 4 := by kernel_rfl
  have he : Tryz.prog.elem 251 = 5 := by kernel_rfl
  have hs : (sizeOf 5).run Tryz.prog W = .ok 1 W := by kernel_rfl
  have h := run_sliceAt_array_all (P := Tryz.prog) W 251 ⟨b, 0, none⟩ (by rw [hl, he]; exact Tryz.underlying251)
  rw [h, he, hs, hl]
  simp only [Result.andThen_ok, slicedAt]
  rw [if_neg (by omega), Addr.add_mid]
theorem info62 : (Tryz.prog.info? 251).map (·.size) = some 4 := by kernel_rfl

theorem Txt.away {w0 w : World} {p q : Nat} {A : Option Addr} {n c : Nat} {bs : List B8} (h : Txt w p A n c bs) (hq : q = w0.heap.size + 1) (h0 : Txt w0 p A n c bs) : Txt w q A n c bs := by
  refine ⟨h.len, h.cap, h.capm, fun hn => ?_⟩
  obtain ⟨g, o, hA, hg, hc⟩ := h.cells hn
  obtain ⟨g', o', hA', _, hc'⟩ := h0.cells hn
  rw [hA] at hA'
  simp only [Option.some.injEq, Addr.mk.injEq, and_true] at hA'
  obtain ⟨rfl, rfl⟩ := hA'
  have : g < w0.heap.size := World.block_lt_of_cell? w0 _ (hc' 0 hn)
  exact ⟨g, o, hA, by omega, hc⟩

set_option maxHeartbeats 1000000 in
set_option maxRecDepth 100000 in
theorem framed_any (ks : List B32) (w : World) (L : Option Addr) (n c : Nat) (xs : List (List B8)) (hK : Roots ks w) (ht : Txts w w.heap.size L n xs) (hn : n ≤ 40) (hsm : ∀ x ∈ xs, x.length ≤ 300) :
    Calls Tryz.prog 144 #[.slice L n c] w fun e w' => e = .returned (.agg (Vb (sha ks (framesOf xs))).toArray) ∧ Below w.heap.size w w' := by
  have hpos := hK.pos
  have hz := zero44
  have hb : Below w.heap.size w ((w.alloc (.cells (List.replicate 32 (Value.int .u8 0)).toArray 184)).alloc (.cells zeroCells.toArray 250)) := ((Below.refl _ _).alloc (Nat.le_refl _) _).alloc (by simp) _
  have hr := (Blk.new w 184 (List.replicate 32 (.int .u8 0))).alloc (.cells zeroCells.toArray 250)
  have h1 : IsStr ks ((w.alloc (.cells (List.replicate 32 (Value.int .u8 0)).toArray 184)).alloc (.cells zeroCells.toArray 250)) (w.heap.size + 1) [] := zero_str ks (blk_two w 184 250 (List.replicate 32 (.int .u8 0)) zeroCells)
  have H := Lib.hid (And.intro hb (And.intro hr (And.intro h1 (And.intro hK (And.intro ht hsm)))))
  clear hb hr h1 hK ht hsm
  go_enter Tryz.func144, Tryz.ntmps144
  go_wp2_with fail
  go_loopw [9] (fun i wr => ∃ k : Nat, k ≤ n ∧ i = .int .i64 k ∧ IsStr ks wr (w.heap.size + 1) (framesOf (xs.take k)) ∧ Blk wr w.heap.size 184 (List.replicate 32 (.int .u8 0)) ∧ Below w.heap.size w wr) (fun i _ => n - (intOf i).toNat)
  case atStart => exact ⟨0, by omega, rfl, H.out.2.2.1, H.out.2.1, H.out.1⟩
  case round =>
    obtain ⟨k, hk, rfl, hs, hres, hbel⟩ := hrel
    have hl := H.out.2.2.2.2.1.len
    have hsk := frames_small_take xs H.out.2.2.2.2.2 k (by omega)
    by_cases hkn : k < n
    · obtain ⟨g, o, rfl, hgp, hc⟩ := H.out.2.2.2.2.1.cells (by omega)
      obtain ⟨A, m, cc, hcell, htx⟩ := hc k (xs[k]'(by omega)) (List.getElem?_eq_getElem _)
      have hcw := (hbel.cell (World.block_lt_of_cell? w _ hcell)).trans hcell
      have hft := frames_take (X := xs) (k := k) (List.getElem?_eq_getElem (by omega))
      have hm3 := H.out.2.2.2.2.2 _ (List.getElem_mem (l := xs) (n := k) (by omega))
      generalize xs[k]'(by omega) = x at htx hft hm3
      have hml := htx.len
      rw [hml] at hm3
      have HO := Lib.hid (And.intro hs (And.intro hres (And.intro hbel (And.intro htx hft))))
      clear hs hres hbel htx hft hc hcell
      go_wp2_with fail
      refine (frame_any wr m (by omega)).mono ?_
      rintro e w1 ⟨rfl, hb1⟩
      have HB1 := Lib.hid hb1
      clear hb1
      have hs4 := slice4
      go_wp2_with (refine wpList_store_blk rfl 251 (.tmp 6) (.tmp 15) rfl w1.heap.size 0 (Vb (fr m)) rfl (by rw [← fr_cells m (by omega)]; rfl) (Blk.new w1 251 (List.replicate 4 (.int .u8 0))) (by simp [Vb_length, fr]) (info62.trans (by simp [Vb_length, fr])) (Vb_oneCell _) ?_; intro w2 hA hO)
      rw [over_whole (by simp [Vb_length, fr])] at hA
      have hp1 := HO.out.1.lt
      have hs1 := HB1.out.size
      have hA1 : Below w1.heap.size w1 w2 := ((Below.refl _ _).alloc (Nat.le_refl _) _).trans (hO.below (B := w1.heap.size) (by simp) (by simp))
      have hB2 : Below wr.heap.size wr w2 := HB1.out.trans (hA1.mono hs1)
      have ht2 : Txt w2 (w.heap.size + 1) (some ⟨w1.heap.size, 0, none⟩) 4 4 (fr m) := by
        refine ⟨rfl, Nat.le_refl _, by unfold maxLen; omega, fun _ => ⟨w1.heap.size, 0, rfl, by omega, fun j hj => ?_⟩⟩
        rw [Nat.zero_add, hA.cell, Vb_get, List.getD_eq_getElem?_getD, List.getElem?_eq_getElem (by exact hj)]
        rfl
      have HW2 := Lib.hid (And.intro hB2 ht2)
      clear hA hO hA1 hB2 ht2
      refine (tell_any ks w2 (w.heap.size + 1) (framesOf (xs.take k)) (some ⟨w1.heap.size, 0, none⟩) 4 4 (fr m) (by omega) (H.out.2.2.2.1.below (HO.out.2.2.1.trans (HW2.out.1.mono HO.out.2.2.1.size)) hpos) (HO.out.1.below HW2.out.1 hp1) HW2.out.2 (by omega)).mono ?_
      rintro e w3 ⟨rfl, hs3, ho3⟩
      have hB3 : Below w.heap.size w w3 := (HO.out.2.2.1.trans (HW2.out.1.mono HO.out.2.2.1.size)).trans (ho3.below (B := w.heap.size) (HO.out.2.2.1.trans (HW2.out.1.mono HO.out.2.2.1.size)).size (by simp))
      have hR3 := (HO.out.2.1.below HW2.out.1 HO.out.2.1.lt).only ho3 (by simp)
      have H3 := Lib.hid (And.intro hs3 (And.intro hB3 hR3))
      clear hs3 ho3 hB3 hR3
      go_wp2_with fail
      have hf4 : (fr m).length = 4 := rfl
      refine (tell_any ks w3 (w.heap.size + 1) (framesOf (xs.take k) ++ fr m) A m cc x (by omega) (H.out.2.2.2.1.below H3.out.2.1 hpos) H3.out.1 ((HO.out.2.2.2.1.below H3.out.2.1 (Nat.le_refl _)).away (by rfl) HO.out.2.2.2.1) (by rw [List.length_append, hf4]; omega)).mono ?_
      rintro e w4 ⟨rfl, hs4', ho4⟩
      have hB4 : Below w.heap.size w w4 := H3.out.2.1.trans (ho4.below (B := w.heap.size) H3.out.2.1.size (by simp))
      have hR4 := H3.out.2.2.only ho4 (by simp)
      have H4 := Lib.hid (And.intro hs4' (And.intro hB4 hR4))
      clear hs4' ho4 hB4 hR4
      go_wp2_with fail
      go_roundw
      case rel =>
        refine ⟨k + 1, by omega, by go_num, ?_, H4.out.2.2, H4.out.2.1⟩
        rw [HO.out.2.2.2.2, hml]
        exact H4.out.1
      case measure => simp [intOf]; omega
    · obtain rfl : k = n := by omega
      rw [List.take_of_length_le (by omega)] at hs hsk
      have HO := Lib.hid (And.intro hs (And.intro hres hbel))
      clear hs hres hbel
      go_wp2_with fail
      refine (sum_any ks wr (some ⟨w.heap.size + 1, 0, none⟩) (framesOf xs) (H.out.2.2.2.1.below HO.out.2.2 hpos) (.inr ⟨_, rfl, HO.out.1⟩) (by omega)).mono ?_
      rintro e w3 ⟨rfl, hb3⟩
      have hB3 : Below w.heap.size w w3 := HO.out.2.2.trans (hb3.mono HO.out.2.2.size)
      have hR3 := HO.out.2.1.below hb3 HO.out.2.1.lt
      have H3 := Lib.hid (And.intro hB3 hR3)
      clear hb3 hB3 hR3
      go_wp2_with (refine wpList_store_blk rfl 184 (.tmp 2) (.tmp 21) rfl w.heap.size 0 (Vb (sha ks (framesOf xs))) rfl rfl H3.out.2 (by simp [Vb_length, sha_length]) (info31.trans (by simp [Vb_length, sha_length])) (Vb_oneCell _) ?_; intro w5 hA hO)
      rw [over_whole (by simp [Vb_length, sha_length])] at hA
      refine bodyPost_ret (v := .agg (Vb (sha ks (framesOf xs))).toArray) ?_ rfl ⟨rfl, ?_⟩
      · exact ret_cell rfl rfl (run_loadVar_mid _ _ 0 184 _ _ hA.range Tryz.underlying184 rfl (info31.trans (by simp [Vb_length, sha_length])))
      · exact H3.out.1.trans (hO.below (B := w.heap.size) H3.out.1.size (by simp))

end Go.Proofs.YtfkdpndcoegfpaaGreatDoor
end

/-
  The document's own Frame. Condition: the texts are known, of at most 300 bytes.
-/

section
set_option maxRecDepth 100000
set_option linter.unusedSimpArgs false
set_option linter.unusedVariables false
namespace Go.Proofs.YtfkdpndcoegfpaaGreatDoor
open Go.RowKit

theorem fr_small (n : Nat) (hn : n ≤ 300) : [Value.int .u8 ((n : Int) / 16777216), .int .u8 ((n : Int) / 65536), .int .u8 ((n : Int) / 256), .int .u8 ((n : Int) % 256)] = Vb (fr n) := by
  rw [← fr_cells n (by omega)]
  have h1 : (n : Int) / 65536 = (n : Int) / 65536 % 256 := by omega
  have h2 : (n : Int) / 256 = (n : Int) / 256 % 256 := by omega
  rw [← h1, ← h2]
theorem four_one (a b c d : Int) : ∀ u ∈ [Value.int .u8 a, .int .u8 b, .int .u8 c, .int .u8 d], u.oneCell' = true := by
  intro u hu
  simp only [List.mem_cons, List.not_mem_nil, or_false] at hu
  rcases hu with rfl | rfl | rfl | rfl <;> rfl
theorem new_row (w : World) (cs : List Value) (t : TypeId) : ∀ j u, cs[j]? = some u → (w.alloc (.cells cs.toArray t)).cell? ((⟨w.heap.size, 0, none⟩ : Addr).add j) = some u := by
  intro j u hu
  rw [Addr.add_mid, Nat.zero_add, (Blk.new w t cs).cell j, hu]

set_option maxHeartbeats 400000 in
set_option maxRecDepth 100000 in
theorem frame_ref (w : World) (L : Option Addr) (n c : Nat) (xs : List (List B8)) (ht : TxtsN w w.heap.size L n xs) (hn : n ≤ 40) (hsm : ∀ x ∈ xs, x.length ≤ 300) :
    Calls Tryz.prog 139 #[.slice L n c] w fun e w' => ∃ v, e = .returned v ∧ w'.ownsRow w.heap.size 5 1 v (framesOf xs).length (Vb (framesOf xs)) ∧ Below w.heap.size w w' := by
  obtain ⟨i0, hi, hz0, hz1, hz2⟩ := info_parts (show (Tryz.prog.info? 5).map (fun i => (i.zero, i.size, i.bytes)) = some (some (.int .u8 0), 1, 1) by kernel_rfl)
  have HI := Lib.hid (And.intro hi (And.intro hz0 (And.intro hz1 hz2)))
  have HT := Lib.hid (And.intro ht hsm)
  clear hi hz0 hz1 hz2 ht hsm
  go_enter Tryz.func139, Tryz.ntmps139
  go_wp2_with fail
  go_loopw [4, 3] (fun i v wr => ∃ k : Nat, k ≤ n ∧ i = .int .i64 k ∧ wr.ownsRow w.heap.size 5 1 v (framesOf (xs.take k)).length (Vb (framesOf (xs.take k))) ∧ Below w.heap.size w wr) (fun i _ _ => n - (intOf i).toNat)
  case atStart => exact ⟨0, by omega, rfl, World.ownsRow_nil _ _ _ _, Below.refl _ _⟩
  case round =>
    obtain ⟨k, hk, rfl, hown, hbel⟩ := hrel
    have hl := HT.out.1.len
    have hsk := frames_small_take xs HT.out.2 k (by omega)
    by_cases hkn : k < n
    · obtain ⟨g, o, rfl, hgp, hc⟩ := HT.out.1.cells (by omega)
      obtain ⟨A, m, cc, hcell, htx⟩ := hc k (xs[k]'(by omega)) (List.getElem?_eq_getElem _)
      have hgs : g < w.heap.size := World.block_lt_of_cell? w _ hcell
      have hft := frames_take (X := xs) (k := k) (List.getElem?_eq_getElem (by omega))
      have hm3 := HT.out.2 _ (List.getElem_mem (l := xs) (n := k) (by omega))
      generalize xs[k]'(by omega) = x at htx hft hm3
      have hml := htx.txt.len
      rw [hml] at hm3 hft
      have hcw := (hbel.cell (p := ⟨g, o + k, none⟩) hgs).trans hcell
      have HO := Lib.hid (And.intro hown (And.intro hbel (And.intro htx (And.intro hft hcell))))
      have HS := Lib.hid hsk
      clear hown hbel htx hft hc hcell hsk
      match A, HO with
      | none, HO =>
        obtain ⟨rfl, rfl⟩ := HO.out.2.2.1.nil rfl
        obtain rfl := List.eq_nil_of_length_eq_zero hml
        go_wp2_with (first
          | (at_builtin; refine wpList_append_own _ rfl (.tmp 17) (.tmp 29) 22 rfl w.heap.size 5 i0 (.int .u8 0) 1 1 Tryz.underlying22 HI.out.1 HI.out.2.1 HI.out.2.2.1 HI.out.2.2.2 rfl (by decide) u3 (framesOf (xs.take k)).length (Vb (framesOf (xs.take k))) rfl (HO.out.1.alloc _) ⟨wr.heap.size, 0, none⟩ 4 4 _ rfl rfl (new_row wr [_, _, _, _] 5) (four_one _ _ _ _) (by have := HS.out; unfold maxLen; omega) (by have := HS.out; omega) (by have := HO.out.2.1.size; simp; omega) ?_; intro v2 w2 ho2 hg2 _; have HB2 := Lib.hid ((HO.out.2.1.alloc HO.out.2.1.size _).grown hg2 (by have := HO.out.2.1.size; simp; omega) (fun q hq => own_ge HO.out.1 q hq)); have HA2 := Lib.hid ho2; have hcw2 := (HB2.out.cell (p := ⟨g, o + k, none⟩) hgs).trans HO.out.2.2.2.2; clear ho2 hg2)
          | (at_builtin; go_loud (refine wpList_append_own_none rfl (.tmp 31) (.tmp 35) 22 rfl w.heap.size 5 i0 1 Tryz.underlying22 HI.out.1 v2 _ _ rfl HA2.out rfl ?_)))
        go_roundw
        case rel =>
          refine ⟨k + 1, by omega, by go_num, ?_, HB2.out⟩
          have e : [Value.int .u8 0, .int .u8 0, .int .u8 0, .int .u8 0] = Vb (fr 0) := fr_small 0 (by omega)
          rw [HO.out.2.2.2.1, List.append_nil, List.length_append, Vb_append, ← e]
          exact HA2.out
        case measure => simp [intOf]; omega
      | some a, HO =>
        go_wp2_with (first
          | (at_builtin; refine wpList_append_own _ rfl (.tmp 17) (.tmp 29) 22 rfl w.heap.size 5 i0 (.int .u8 0) 1 1 Tryz.underlying22 HI.out.1 HI.out.2.1 HI.out.2.2.1 HI.out.2.2.2 rfl (by decide) u3 (framesOf (xs.take k)).length (Vb (framesOf (xs.take k))) rfl (HO.out.1.alloc _) ⟨wr.heap.size, 0, none⟩ 4 4 _ rfl rfl (new_row wr [_, _, _, _] 5) (four_one _ _ _ _) (by have := HS.out; unfold maxLen; omega) (by have := HS.out; omega) (by have := HO.out.2.1.size; simp; omega) ?_; intro v2 w2 ho2 hg2 _; have HB2 := Lib.hid ((HO.out.2.1.alloc HO.out.2.1.size _).grown hg2 (by have := HO.out.2.1.size; simp; omega) (fun q hq => own_ge HO.out.1 q hq)); have HA2 := Lib.hid ho2; have hcw2 := (HB2.out.cell (p := ⟨g, o + k, none⟩) hgs).trans HO.out.2.2.2.2; clear ho2 hg2)
          | (at_builtin; go_loud (refine wpList_append_own _ rfl (.tmp 31) (.tmp 35) 22 rfl w.heap.size 5 i0 (.int .u8 0) 1 1 Tryz.underlying22 HI.out.1 HI.out.2.1 HI.out.2.2.1 HI.out.2.2.2 rfl (by decide) v2 _ _ rfl HA2.out a m cc (Vb x) rfl (by rw [Vb_length]; omega) (txt_cells (HO.out.2.2.1.txt.below HB2.out (Nat.le_refl _))) (Vb_oneCell _) (by have := HS.out; unfold maxLen; omega) (by have := HS.out; omega) HB2.out.size ?_); intro v3 w3 ho3 hg3 _))
        go_roundw
        case rel =>
          refine ⟨k + 1, by omega, by go_num, ?_, HB2.out.grown hg3 HB2.out.size (fun q hq => own_ge HA2.out q hq)⟩
          rw [fr_small m hm3] at ho3
          rw [HO.out.2.2.2.1, List.length_append, List.length_append, Vb_append, Vb_append, hml]
          exact ho3
        case measure => simp [intOf]; omega
    · obtain rfl : k = n := by omega
      rw [List.take_of_length_le (by omega)] at hown
      go_wp2_with fail
      go_ret
      exact ⟨_, rfl, hown, hbel⟩

end Go.Proofs.YtfkdpndcoegfpaaGreatDoor
end

/-
  The document's turned: a word's bits, to the right. Condition: 1 to 31 bits.
-/

section
set_option maxRecDepth 100000
set_option linter.unusedSimpArgs false
set_option linter.unusedVariables false
namespace Go.Proofs.YtfkdpndcoegfpaaGreatDoor
open Go.RowKit

theorem rr_nat (x : B32) (n : Nat) (hn : n ≤ 32) : (rr x n).toNat = x.toNat / 2 ^ n + x.toNat % 2 ^ n * 2 ^ (32 - n) := by
  have hx := x.isLt
  have h32 : (2 : Nat) ^ 32 = 2 ^ n * 2 ^ (32 - n) := by rw [← Nat.pow_add]; congr 1; omega
  rw [rr_eq, BitVec.toNat_or, BitVec.toNat_shiftLeft, BitVec.toNat_ushiftRight, Nat.shiftLeft_eq, Nat.shiftRight_eq_div_pow]
  have e : x.toNat * 2 ^ (32 - n) % 2 ^ 32 = 2 ^ (32 - n) * (x.toNat % 2 ^ n) := by
    rw [h32, Nat.mul_mod_mul_right, Nat.mul_comm]
  have hl : x.toNat / 2 ^ n < 2 ^ (32 - n) := by
    rw [Nat.div_lt_iff_lt_mul (Nat.two_pow_pos n), Nat.mul_comm, ← h32]
    exact hx
  rw [e, ← Nat.two_pow_add_eq_or_of_lt hl, Nat.mul_comm (2 ^ (32 - n)), Nat.add_comm]
theorem rr_int (x : B32) (n : Nat) (hn : n ≤ 32) : nw x / 2 ^ n + nw x % 2 ^ n * 2 ^ (32 - n) = nw (rr x n) := by
  have h := rr_nat x n hn
  unfold nw
  rw [h]
  norm_cast

theorem turned_7 (w : World) (x : B32) : Calls Tryz.prog 187 #[.int .i64 (nw x), .int .i64 7] w fun e w' => e = .returned (.int .i64 (nw (rr x 7))) ∧ ∃ k, w' = w.drewN k := by
  have hx := nw_bound x
  have hr : nw x / 128 + nw x % 128 * 33554432 = nw (rr x 7) := rr_int x 7 (by omega)
  go_enter Tryz.func187, Tryz.ntmps187
  go_wp2_with fail
  go_quiet (fail)
  go_wp2_with fail
  go_ret
  exact ⟨rfl, _, rfl⟩
theorem turned_18 (w : World) (x : B32) : Calls Tryz.prog 187 #[.int .i64 (nw x), .int .i64 18] w fun e w' => e = .returned (.int .i64 (nw (rr x 18))) ∧ ∃ k, w' = w.drewN k := by
  have hx := nw_bound x
  have hr : nw x / 262144 + nw x % 262144 * 16384 = nw (rr x 18) := rr_int x 18 (by omega)
  go_enter Tryz.func187, Tryz.ntmps187
  go_wp2_with fail
  go_quiet (fail)
  go_wp2_with fail
  go_ret
  exact ⟨rfl, _, rfl⟩
theorem turned_17 (w : World) (x : B32) : Calls Tryz.prog 187 #[.int .i64 (nw x), .int .i64 17] w fun e w' => e = .returned (.int .i64 (nw (rr x 17))) ∧ ∃ k, w' = w.drewN k := by
  have hx := nw_bound x
  have hr : nw x / 131072 + nw x % 131072 * 32768 = nw (rr x 17) := rr_int x 17 (by omega)
  go_enter Tryz.func187, Tryz.ntmps187
  go_wp2_with fail
  go_quiet (fail)
  go_wp2_with fail
  go_ret
  exact ⟨rfl, _, rfl⟩
theorem turned_19 (w : World) (x : B32) : Calls Tryz.prog 187 #[.int .i64 (nw x), .int .i64 19] w fun e w' => e = .returned (.int .i64 (nw (rr x 19))) ∧ ∃ k, w' = w.drewN k := by
  have hx := nw_bound x
  have hr : nw x / 524288 + nw x % 524288 * 8192 = nw (rr x 19) := rr_int x 19 (by omega)
  go_enter Tryz.func187, Tryz.ntmps187
  go_wp2_with fail
  go_quiet (fail)
  go_wp2_with fail
  go_ret
  exact ⟨rfl, _, rfl⟩
theorem turned_6 (w : World) (x : B32) : Calls Tryz.prog 187 #[.int .i64 (nw x), .int .i64 6] w fun e w' => e = .returned (.int .i64 (nw (rr x 6))) ∧ ∃ k, w' = w.drewN k := by
  have hx := nw_bound x
  have hr : nw x / 64 + nw x % 64 * 67108864 = nw (rr x 6) := rr_int x 6 (by omega)
  go_enter Tryz.func187, Tryz.ntmps187
  go_wp2_with fail
  go_quiet (fail)
  go_wp2_with fail
  go_ret
  exact ⟨rfl, _, rfl⟩
theorem turned_11 (w : World) (x : B32) : Calls Tryz.prog 187 #[.int .i64 (nw x), .int .i64 11] w fun e w' => e = .returned (.int .i64 (nw (rr x 11))) ∧ ∃ k, w' = w.drewN k := by
  have hx := nw_bound x
  have hr : nw x / 2048 + nw x % 2048 * 2097152 = nw (rr x 11) := rr_int x 11 (by omega)
  go_enter Tryz.func187, Tryz.ntmps187
  go_wp2_with fail
  go_quiet (fail)
  go_wp2_with fail
  go_ret
  exact ⟨rfl, _, rfl⟩
theorem turned_25 (w : World) (x : B32) : Calls Tryz.prog 187 #[.int .i64 (nw x), .int .i64 25] w fun e w' => e = .returned (.int .i64 (nw (rr x 25))) ∧ ∃ k, w' = w.drewN k := by
  have hx := nw_bound x
  have hr : nw x / 33554432 + nw x % 33554432 * 128 = nw (rr x 25) := rr_int x 25 (by omega)
  go_enter Tryz.func187, Tryz.ntmps187
  go_wp2_with fail
  go_quiet (fail)
  go_wp2_with fail
  go_ret
  exact ⟨rfl, _, rfl⟩
theorem turned_2 (w : World) (x : B32) : Calls Tryz.prog 187 #[.int .i64 (nw x), .int .i64 2] w fun e w' => e = .returned (.int .i64 (nw (rr x 2))) ∧ ∃ k, w' = w.drewN k := by
  have hx := nw_bound x
  have hr : nw x / 4 + nw x % 4 * 1073741824 = nw (rr x 2) := rr_int x 2 (by omega)
  go_enter Tryz.func187, Tryz.ntmps187
  go_wp2_with fail
  go_quiet (fail)
  go_wp2_with fail
  go_ret
  exact ⟨rfl, _, rfl⟩
theorem turned_13 (w : World) (x : B32) : Calls Tryz.prog 187 #[.int .i64 (nw x), .int .i64 13] w fun e w' => e = .returned (.int .i64 (nw (rr x 13))) ∧ ∃ k, w' = w.drewN k := by
  have hx := nw_bound x
  have hr : nw x / 8192 + nw x % 8192 * 524288 = nw (rr x 13) := rr_int x 13 (by omega)
  go_enter Tryz.func187, Tryz.ntmps187
  go_wp2_with fail
  go_quiet (fail)
  go_wp2_with fail
  go_ret
  exact ⟨rfl, _, rfl⟩
theorem turned_22 (w : World) (x : B32) : Calls Tryz.prog 187 #[.int .i64 (nw x), .int .i64 22] w fun e w' => e = .returned (.int .i64 (nw (rr x 22))) ∧ ∃ k, w' = w.drewN k := by
  have hx := nw_bound x
  have hr : nw x / 4194304 + nw x % 4194304 * 1024 = nw (rr x 22) := rr_int x 22 (by omega)
  go_enter Tryz.func187, Tryz.ntmps187
  go_wp2_with fail
  go_quiet (fail)
  go_wp2_with fail
  go_ret
  exact ⟨rfl, _, rfl⟩

end Go.Proofs.YtfkdpndcoegfpaaGreatDoor
end

/-
  The document's words, as the machine's numbers of 64 bits: plain definitions and theorems. No condition.
-/

section
set_option maxRecDepth 100000
set_option linter.unusedSimpArgs false
set_option linter.unusedVariables false
namespace Go.Proofs.YtfkdpndcoegfpaaGreatDoor
open Go.RowKit

/-- Words as cells of 64 bits. -/
def Wi (xs : List B32) : List Value := xs.map fun x => .int .i64 (nw x)
theorem Wi_length (xs : List B32) : (Wi xs).length = xs.length := by simp [Wi]
theorem Wi_get (xs : List B32) (i : Nat) : (Wi xs)[i]? = xs[i]?.map fun x => .int .i64 (nw x) := by simp [Wi]
theorem Wi_append (xs ys : List B32) : Wi (xs ++ ys) = Wi xs ++ Wi ys := by simp [Wi]
theorem Wi_oneCell (xs : List B32) : ∀ u ∈ Wi xs, u.oneCell' = true := by
  intro u hu
  simp only [Wi, List.mem_map] at hu
  obtain ⟨x, _, rfl⟩ := hu
  rfl
theorem Wi_getD {xs : List B32} {i : Nat} (h : i < xs.length) : (Wi xs)[i]? = some (.int .i64 (nw (xs.getD i 0))) := by
  rw [Wi_get, List.getD_eq_getElem?_getD, List.getElem?_eq_getElem h]
  rfl
theorem Wi_set (xs : List B32) (i : Nat) (x : B32) : (Wi xs).set i (.int .i64 (nw x)) = Wi (xs.set i x) := by
  unfold Wi
  rw [List.map_set]

theorem wrap_i64 {n : Int} (h : 0 ≤ n) (h2 : n < 9223372036854775808) : IntKind.i64.wrap n = n := by
  simp [IntKind.wrap, IntKind.signed, IntKind.bits]
  omega
theorem ofInt64_nw (x : B32) : BitVec.ofInt 64 (nw x) = x.setWidth 64 := by
  apply BitVec.eq_of_toNat_eq
  have := x.isLt
  unfold nw
  simp
theorem wrap64_nw (x : B32) (y : BitVec 64) (h : y = x.setWidth 64) : IntKind.i64.wrap (y.toNat : Int) = nw x := by
  have e : (y.toNat : Int) = nw x := by
    have := x.isLt
    rw [h]
    unfold nw
    rw [BitVec.toNat_setWidth]
    omega
  rw [e]
  exact wrap_i64 (nw_bound x).1 (by have := (nw_bound x).2; omega)
theorem xor_i64 (x y : B32) : bits .xor .i64 (nw x) (nw y) = nw (x ^^^ y) := by
  unfold bits
  simp only [IntKind.bits, ofInt64_nw]
  exact wrap64_nw _ _ (by rw [BitVec.setWidth_xor]; rfl)
theorem and_i64 (x y : B32) : bits .and .i64 (nw x) (nw y) = nw (x &&& y) := by
  unfold bits
  simp only [IntKind.bits, ofInt64_nw]
  exact wrap64_nw _ _ (by rw [BitVec.setWidth_and]; rfl)
theorem or_i64 (x y : B32) : bits .or .i64 (nw x) (nw y) = nw (x ||| y) := by
  unfold bits
  simp only [IntKind.bits, ofInt64_nw]
  exact wrap64_nw _ _ (by rw [BitVec.setWidth_or]; rfl)
theorem not_i64 (x : B32) : 4294967295 - nw x = nw (~~~x) := by
  have := x.isLt
  unfold nw
  rw [BitVec.toNat_not]
  omega
theorem and_zero (x y z : B32) : (x &&& y) &&& (~~~x &&& z) = 0#32 := by
  ext i hi
  simp
  cases x[i] <;> simp
theorem pick_sum (x y z : B32) : nw (x &&& y) + nw (~~~x &&& z) = nw ((x &&& y) ^^^ (~~~x &&& z)) := by
  have h := and_zero x y z
  have e1 : (x &&& y) + (~~~x &&& z) = (x &&& y) ||| (~~~x &&& z) := BitVec.add_eq_or_of_and_eq_zero _ _ h
  have e2 : (x &&& y) ^^^ (~~~x &&& z) = (x &&& y) ||| (~~~x &&& z) := by
    ext i hi
    simp
    cases x[i] <;> simp
  have hn : (x &&& y).toNat + (~~~x &&& z).toNat < 4294967296 := by
    have hx : (x &&& y).toNat ≤ x.toNat := by rw [BitVec.toNat_and]; exact Nat.and_le_left
    have hz : (~~~x &&& z).toNat ≤ (~~~x).toNat := by rw [BitVec.toNat_and]; exact Nat.and_le_left
    rw [BitVec.toNat_not] at hz
    have := x.isLt
    omega
  rw [e2, ← e1]
  unfold nw
  rw [BitVec.toNat_add]
  omega
theorem most_or (x y z : B32) : (x &&& y) ||| (x &&& z) ||| (y &&& z) = (x &&& y) ^^^ (x &&& z) ^^^ (y &&& z) := by
  ext i hi
  simp
  cases x[i] <;> cases y[i] <;> cases z[i] <;> rfl
theorem mod_nw (n : Int) : n % 4294967296 = nw (BitVec.ofInt 32 n) := by
  rw [← wrap_u32]
  simp [IntKind.wrap, IntKind.signed, IntKind.bits]

/-- The words that lie there behind k steps of the first loop. -/
def schedN (bs : List B8) (k : Nat) : List B32 := if k < 16 then own16 bs k else more (own16 bs 16) (k - 16)
theorem schedN_length (bs : List B8) (k : Nat) : (schedN bs k).length = k := by
  unfold schedN
  split
  · exact own16_length bs k
  · rw [more_length, own16_length]; omega
theorem schedN_own (bs : List B8) {k : Nat} (hk : k < 16) : schedN bs (k + 1) = schedN bs k ++ [word4 bs k] := by
  unfold schedN
  rw [if_pos hk]
  split
  · rfl
  · obtain rfl : k = 15 := by omega
    rfl
theorem schedN_more (bs : List B8) {k : Nat} (hk : 16 ≤ k) : schedN bs (k + 1) = schedN bs k ++ [(schedN bs k).getD (k - 16) 0 + far ((schedN bs k).getD (k - 15) 0) + (schedN bs k).getD (k - 7) 0 + near ((schedN bs k).getD (k - 2) 0)] := by
  have hl := schedN_length bs k
  unfold schedN at hl ⊢
  rw [if_neg (by omega), if_neg (by omega)] at *
  have e : k + 1 - 16 = (k - 16) + 1 := by omega
  rw [e, more, nextW, hl]
theorem schedN_all (bs : List B8) : schedN bs 64 = sched bs := rfl
def parti (l : List B32) : List Value := Wi l ++ List.replicate (64 - l.length) (.int .i64 0)
theorem parti_length {l : List B32} (h : l.length ≤ 64) : (parti l).length = 64 := by simp [parti, Wi_length]; omega
theorem parti_set {l : List B32} (h : l.length < 64) (x : B32) : (parti l).set l.length (.int .i64 (nw x)) = parti (l ++ [x]) := by
  unfold parti
  rw [List.set_append_right _ _ (by rw [Wi_length]; omega), Wi_length, Nat.sub_self, Wi_append]
  obtain ⟨m, hm⟩ : ∃ m, 64 - l.length = m + 1 := ⟨64 - l.length - 1, by omega⟩
  rw [hm, List.replicate_succ, List.set_cons_zero, List.append_assoc]
  have : 64 - (l ++ [x]).length = m := by simp; omega
  rw [this]
  rfl
theorem parti_get {l : List B32} {i : Nat} (h : i < l.length) : (parti l)[i]? = some (.int .i64 (nw (l.getD i 0))) := by
  unfold parti
  rw [List.getElem?_append_left (by rw [Wi_length]; omega), Wi_getD h]
theorem parti_next {l : List B32} (h : l.length < 64) : (parti l)[l.length]? = some (.int .i64 0) := by
  unfold parti
  rw [List.getElem?_append_right (by rw [Wi_length]; omega), Wi_length, Nat.sub_self, List.getElem?_replicate]
  rw [if_pos (by omega)]
theorem parti_whole (l : List B32) (h : l.length = 64) : parti l = Wi l := by simp [parti, h]

theorem word_sum (b0 b1 b2 b3 : B8) : nb b0 * 16777216 + nb b1 * 65536 + nb b2 * 256 + nb b3 = nw (up b0 24 ||| up b1 16 ||| up b2 8 ||| b3.setWidth 32) := by
  have h0 := b0.isLt
  have h1 := b1.isLt
  have h2 := b2.isLt
  have h3 := b3.isLt
  have e : (up b0 24 ||| up b1 16 ||| up b2 8 ||| b3.setWidth 32).toNat = b0.toNat * 16777216 + b1.toNat * 65536 + b2.toNat * 256 + b3.toNat := by
    unfold up
    simp only [BitVec.toNat_or, BitVec.toNat_shiftLeft, BitVec.toNat_setWidth, Nat.shiftLeft_eq]
    rw [Nat.mod_eq_of_lt (a := b0.toNat) (by omega), Nat.mod_eq_of_lt (a := b1.toNat) (by omega), Nat.mod_eq_of_lt (a := b2.toNat) (by omega), Nat.mod_eq_of_lt (a := b3.toNat) (by omega)]
    rw [Nat.mod_eq_of_lt (a := b0.toNat * 2 ^ 24) (by omega), Nat.mod_eq_of_lt (a := b1.toNat * 2 ^ 16) (by omega), Nat.mod_eq_of_lt (a := b2.toNat * 2 ^ 8) (by omega)]
    rw [Nat.mul_comm b0.toNat, ← Nat.two_pow_add_eq_or_of_lt (i := 24) (b := b1.toNat * 2 ^ 16) (by omega)]
    have f1 : 2 ^ 24 * b0.toNat + b1.toNat * 2 ^ 16 = 2 ^ 16 * (256 * b0.toNat + b1.toNat) := by omega
    rw [f1, ← Nat.two_pow_add_eq_or_of_lt (i := 16) (b := b2.toNat * 2 ^ 8) (by omega)]
    have f2 : 2 ^ 16 * (256 * b0.toNat + b1.toNat) + b2.toNat * 2 ^ 8 = 2 ^ 8 * (256 * (256 * b0.toNat + b1.toNat) + b2.toNat) := by omega
    rw [f2, ← Nat.two_pow_add_eq_or_of_lt (i := 8) (b := b3.toNat) (by omega)]
    first | done | omega
  unfold nw nb
  rw [e]
  omega

end Go.Proofs.YtfkdpndcoegfpaaGreatDoor
end

/-
  The document's table, plainly: digits, products, roots, primes; and that it is the program's own constants, reckoned by the kernel. No condition.
-/

section
set_option maxRecDepth 100000
set_option linter.unusedSimpArgs false
set_option linter.unusedVariables false
namespace Go.Proofs.YtfkdpndcoegfpaaGreatDoor
open Go.RowKit

def digs (y : Nat) : List Nat := [y % 65536, y / 65536 % 65536, y / 65536 / 65536 % 65536]
def mulIn (a b out : List Nat) (i : Nat) : Nat → List Nat × Nat
  | 0 => (out, 0)
  | k + 1 =>
    let r := mulIn a b out i k
    let n := r.1.getD (i + k) 0 + a.getD i 0 * b.getD k 0 + r.2
    (r.1.set (i + k) (n % 65536), n / 65536)
def mulOut (a b : List Nat) : Nat → List Nat
  | 0 => List.replicate (a.length + b.length) 0
  | i + 1 =>
    let r := mulIn a b (mulOut a b i) i b.length
    r.1.set (i + b.length) r.2
def prodN (a b : List Nat) : List Nat := mulOut a b a.length
def powD (y : Nat) : Nat → List Nat
  | 0 => digs y
  | k + 1 => prodN (powD y k) (digs y)
def wholeR (z : List Nat) (top : Nat) : Nat → Nat × Nat
  | 0 => (0, 0)
  | j + 1 =>
    let r := wholeR z top j
    let d := z.getD (z.length - 1 - j) 0
    if top ≤ z.length - 1 - j then (65536 * r.1 + d, r.2) else (r.1, r.2 + d)
def goodR (prime power y : Nat) : Bool :=
  let r := wholeR (powD y (power - 1)) (2 * power) (3 * power)
  decide (r.1 < prime) || (r.1 == prime && r.2 == 0)
def rootX (prime power : Nat) : Nat → Nat
  | 0 => 0
  | j + 1 =>
    let x := rootX prime power j
    let y := x + 2 ^ (36 - j)
    if goodR prime power y then y else x
def rootN (prime power : Nat) : Nat := rootX prime power 37 % 4294967296

/-- All digits are small. -/
def S16 (l : List Nat) : Prop := ∀ i, l.getD i 0 < 65536
theorem S16.set {l : List Nat} (h : S16 l) (j : Nat) {x : Nat} (hx : x < 65536) : S16 (l.set j x) := by
  intro i
  have := h i
  rw [List.getD_eq_getElem?_getD, List.getElem?_set] at *
  split
  · split
    · exact hx
    · simp
  · exact this
theorem S16.zeros (n : Nat) : S16 (List.replicate n 0) := by
  intro i
  rw [List.getD_eq_getElem?_getD, List.getElem?_replicate]
  split <;> simp
theorem S16.digs (y : Nat) : S16 (digs y) := by
  intro i
  match i with
  | 0 | 1 | 2 => simp [Go.Proofs.YtfkdpndcoegfpaaGreatDoor.digs]; omega
  | i + 3 => simp [Go.Proofs.YtfkdpndcoegfpaaGreatDoor.digs]
theorem mulIn_length (a b out : List Nat) (i : Nat) : ∀ k, (mulIn a b out i k).1.length = out.length
  | 0 => rfl
  | k + 1 => by simp [mulIn, mulIn_length a b out i k]
theorem mul_small {o a b c : Nat} (ho : o < 65536) (ha : a < 65536) (hb : b < 65536) (hc : c < 65536) : a * b ≤ 4294836225 ∧ o + a * b + c ≤ 4294967295 := by
  have h : a * b ≤ 65535 * 65535 := Nat.mul_le_mul (by omega) (by omega)
  omega
theorem mulIn_small {a b out : List Nat} (ha : S16 a) (hb : S16 b) (ho : S16 out) (i : Nat) : ∀ k, S16 (mulIn a b out i k).1 ∧ (mulIn a b out i k).2 < 65536
  | 0 => ⟨ho, by simp [mulIn]⟩
  | k + 1 => by
    obtain ⟨h1, h2⟩ := mulIn_small ha hb ho i k
    have := mul_small (h1 (i + k)) (ha i) (hb k) h2
    refine ⟨h1.set _ (by omega), ?_⟩
    simp only [mulIn]
    omega
theorem mulOut_length (a b : List Nat) : ∀ i, (mulOut a b i).length = a.length + b.length
  | 0 => by simp [mulOut]
  | i + 1 => by simp [mulOut, mulIn_length, mulOut_length a b i]
theorem mulOut_small {a b : List Nat} (ha : S16 a) (hb : S16 b) : ∀ i, S16 (mulOut a b i)
  | 0 => S16.zeros _
  | i + 1 => by
    have := mulIn_small ha hb (mulOut_small ha hb i) i b.length
    exact this.1.set _ this.2
theorem prodN_length (a b : List Nat) : (prodN a b).length = a.length + b.length := mulOut_length a b _
theorem prodN_small {a b : List Nat} (ha : S16 a) (hb : S16 b) : S16 (prodN a b) := mulOut_small ha hb _
theorem powD_length (y : Nat) : ∀ k, (powD y k).length = 3 + 3 * k
  | 0 => rfl
  | k + 1 => by
    rw [powD, prodN_length, powD_length y k]
    show 3 + 3 * k + 3 = _
    omega
theorem powD_small (y : Nat) : ∀ k, S16 (powD y k)
  | 0 => S16.digs y
  | k + 1 => prodN_small (powD_small y k) (S16.digs y)
theorem wholeR_small {z : List Nat} (hz : S16 z) (top : Nat) : ∀ j, j ≤ z.length → (wholeR z top j).1 < 65536 ^ (min j (z.length - top)) ∧ (wholeR z top j).2 ≤ 65536 * j
  | 0, _ => by simp [wholeR]
  | j + 1, hj => by
    obtain ⟨h1, h2⟩ := wholeR_small hz top j (by omega)
    have hd := hz (z.length - 1 - j)
    simp only [wholeR]
    split
    · refine ⟨?_, by show _ ≤ _; omega⟩
      have e : min (j + 1) (z.length - top) = j + 1 := by omega
      have e2 : min j (z.length - top) = j := by omega
      rw [e2] at h1
      rw [e, Nat.pow_succ]
      show 65536 * (wholeR z top j).1 + _ < _
      omega
    · refine ⟨?_, by show _ + _ ≤ _; omega⟩
      exact Nat.lt_of_lt_of_le h1 (Nat.pow_le_pow_right (by omega) (by omega))
theorem rootX_small (prime power : Nat) : ∀ j, j ≤ 37 → rootX prime power j + 2 ^ (37 - j) ≤ 137438953472
  | 0, _ => by simp [rootX]
  | j + 1, h => by
    have := rootX_small prime power j (by omega)
    have e : 2 ^ (37 - j) = 2 ^ (36 - j) + 2 ^ (36 - j) := by
      rw [show 37 - j = (36 - j) + 1 by omega, Nat.pow_succ]
      omega
    have hp := Nat.two_pow_pos (36 - j)
    simp only [rootX]
    rw [show 37 - (j + 1) = 36 - j by omega]
    split <;> omega

def divsN (p : Nat) : Nat → Nat
  | 0 => 0
  | j + 1 => divsN p j + if p % (j + 1) = 0 then 1 else 0
theorem divsN_le (p : Nat) : ∀ j, divsN p j ≤ j
  | 0 => by simp [divsN]
  | j + 1 => by
    have := divsN_le p j
    simp only [divsN]
    split <;> omega
def isP (p : Nat) : Bool := divsN p p == 2
/-- The primes of k numbers from 2 on. -/
def primesN : Nat → List Nat
  | 0 => []
  | k + 1 => if isP (k + 2) then primesN k ++ [k + 2] else primesN k
def padN (n : Nat) (l : List Nat) : List Nat := l ++ List.replicate (n - l.length) 0
def tabN (ps : List Nat) : List Nat := padN 8 ((ps.take 8).map fun p => rootN p 2) ++ padN 64 (ps.map fun p => rootN p 3)
def Vn (l : List Nat) : List Value := l.map fun (n : Nat) => .int .i64 n
theorem Vn_length (l : List Nat) : (Vn l).length = l.length := by simp [Vn]

set_option maxRecDepth 1000000 in
theorem primes_now : primesN 310 = [2, 3, 5, 7, 11, 13, 17, 19, 23, 29, 31, 37, 41, 43, 47, 53, 59, 61, 67, 71, 73, 79, 83, 89, 97, 101, 103, 107, 109, 113, 127, 131, 137, 139, 149, 151, 157, 163, 167, 173, 179, 181, 191, 193, 197, 199, 211, 223, 227, 229, 233, 239, 241, 251, 257, 263, 269, 271, 277, 281, 283, 293, 307, 311] := by decide +kernel
set_option maxRecDepth 1000000 in
theorem primes_less : (primesN 309).length = 63 := by decide +kernel
theorem primes_mono : ∀ k d, (primesN k).length ≤ (primesN (k + d)).length
  | _, 0 => Nat.le_refl _
  | k, d + 1 => by
    have := primes_mono k d
    rw [← Nat.add_assoc]
    simp only [primesN]
    split
    · rw [List.length_append]; omega
    · exact this
theorem primes_63 {k : Nat} (h : k ≤ 309) : (primesN k).length < 64 := by
  have := primes_mono k (309 - k)
  rw [show k + (309 - k) = 309 by omega, primes_less] at this
  omega

end Go.Proofs.YtfkdpndcoegfpaaGreatDoor
end

/-
  The document's digits, product, root: as the plain ones say. Conditions: digits below 65536; at most 100 of them; a prime below 1000, power 2 or 3.
-/

section
set_option maxRecDepth 100000
set_option linter.unusedSimpArgs false
set_option linter.unusedVariables false
namespace Go.Proofs.YtfkdpndcoegfpaaGreatDoor
open Go.RowKit

def Us (l : List Nat) : List Value := l.map fun (n : Nat) => .int .u64 n
theorem below_drewN {B : Nat} {a w : World} (h : Below B a w) (n : Nat) : Below B a (w.drewN n) := h.trans ⟨rfl, rfl, rfl, Nat.le_refl _, fun _ _ => rfl⟩
theorem Us_length (l : List Nat) : (Us l).length = l.length := by simp [Us]
theorem Us_get {l : List Nat} {i : Nat} (h : i < l.length) : (Us l)[i]? = some (.int .u64 (l.getD i 0 : Nat)) := by
  simp [Us, List.getD_eq_getElem?_getD, List.getElem?_eq_getElem h]
theorem us_set {w : World} {g j : Nat} {l : List Nat} (h : Blk w g 23 (Us l)) (m : Nat) {v : Int} (hv : v = m) : Blk (w.setCell ⟨g, j, none⟩ (.int .u64 v)) g 23 (Us (l.set j m)) := by
  have := h.set_ j (.int .u64 v)
  rw [hv] at this ⊢
  unfold Us at this ⊢
  rw [List.map_set]
  exact this

theorem wpList_make_u64 {w : World} {ops : Array Oper} {rest : List Oper} {o : Oper} {a : Act} {Q : Exit → Act → World → Prop}
    (hg : o.guard = none) (x y : Operand) (hop : o.op = Op.makeSlice 187 x y) (c : Nat) (kx ky : IntKind) (X Y : Int) (hx : a.eval x = .int kx X) (hy : a.eval y = .int ky Y) (hX : X = c) (hY : Y = c) (hc : c ≤ 1000)
    (hK : wpList Tryz.prog ops Q rest (a.put o.dst (.slice (some ⟨w.heap.size, 0, none⟩) c c)) (w.alloc (.cells (Us (List.replicate c 0)).toArray 23))) :
    wpList Tryz.prog ops Q (o :: rest) a w := by
  subst hX hY
  obtain ⟨i0, hi, hz0, hz1, hz2⟩ := info_parts (show (Tryz.prog.info? 23).map (fun i => (i.zero, i.size, i.bytes)) = some (some (.int .u64 0), 1, 8) by kernel_rfl)
  have hr := run_make (P := Tryz.prog) w 187 23 i0 (.int .u64 0) Tryz.underlying187 hi hz0 kx ky c c (by omega) (by omega) (by rw [hz2]; omega) (by omega)
  have hm : madeCells (Value.int .u64 0).cells ((c : Int).toNat * i0.size) = (Us (List.replicate c 0)).toArray := by
    rw [hz1]
    simp only [madeCells, Value.cells, Int.toNat_natCast, Nat.mul_one]
    apply Array.ext
    · simp [Us]
    · intro j h1 h2
      simp [Nat.mod_one, Us]
  rw [hm] at hr
  simp only [Int.toNat_natCast] at hr
  refine wpList_plain hg fun K hK' => ?_
  unfold Oper.wp execOp
  simp only [hop, hx, hy, Sem.run_bind, hr, Result.andThen_ok, Sem.run_pure]
  exact hK' _ _ hK

theorem digits_any (w : World) (y : Nat) (hy : y < 281474976710656) : Calls Tryz.prog 101 #[.int .u64 y] w fun e w' => e = .returned (.slice (some ⟨w.heap.size, 0, none⟩) 3 3) ∧ Blk w' w.heap.size 23 (Us (digs y)) ∧ Below w.heap.size w w' := by
  go_enter Tryz.func101, Tryz.ntmps101
  go_wp2
  go_ret
  have e : [Value.int .u64 ((y : Int) % 65536), .int .u64 ((y : Int) / 65536 % 65536), .int .u64 ((y : Int) / 65536 / 65536 % 65536)] = Us (digs y) := by
    simp [Us, digs]
  refine ⟨rfl, ?_, (Below.refl _ _).alloc (Nat.le_refl _) _⟩
  rw [← e]
  exact Blk.new w _ _

set_option maxHeartbeats 1000000 in
theorem product_any (w : World) (ga gb ca cb : Nat) (a b : List Nat) (ha : Blk w ga 23 (Us a)) (hb : Blk w gb 23 (Us b)) (sa : S16 a) (sb : S16 b) (la : a.length ≤ 100) (lb : b.length ≤ 100) :
    Calls Tryz.prog 102 #[.slice (some ⟨ga, 0, none⟩) a.length ca, .slice (some ⟨gb, 0, none⟩) b.length cb] w fun e w' => e = .returned (.slice (some ⟨w.heap.size, 0, none⟩) (a.length + b.length) (a.length + b.length)) ∧ Blk w' w.heap.size 23 (Us (prodN a b)) ∧ Below w.heap.size w w' := by
  have HA := Lib.hid (And.intro ha sa)
  have HB := Lib.hid (And.intro hb sb)
  have HL := Lib.hid (mulOut_length a b)
  obtain ⟨na, hna⟩ : ∃ n, n = a.length := ⟨_, rfl⟩
  obtain ⟨nb, hnb⟩ : ∃ n, n = b.length := ⟨_, rfl⟩
  have hal := ha.lt
  have hbl := hb.lt
  rw [← hna, ← hnb]
  rw [← hna] at la
  rw [← hnb] at lb
  have HN := Lib.hid (And.intro hna hnb)
  clear ha hb sa sb hna hnb
  go_enter Tryz.func102, Tryz.ntmps102
  go_wp2_with (refine wpList_make_u64 rfl (.tmp 14) (.tmp 14) rfl (na + nb) .i64 .i64 _ _ rfl rfl (by simp) (by simp) (by omega) ?_)
  go_loopw [6] (fun i wr => ∃ k : Nat, k ≤ na ∧ i = .int .i64 k ∧ Blk wr w.heap.size 23 (Us (mulOut a b k)) ∧ Below w.heap.size w wr) (fun i _ => na - (intOf i).toNat)
  case atStart => exact ⟨0, by omega, rfl, by rw [HN.out.1, HN.out.2]; exact Blk.new w _ _, (Below.refl _ _).alloc (Nat.le_refl _) _⟩
  case round =>
    obtain ⟨i, hi, rfl, hblk, hbel⟩ := hrel
    by_cases hin : i < na
    · have HI := Lib.hid (And.intro hblk hbel)
      clear hblk hbel
      obtain ⟨wo, rfl⟩ : ∃ wo : World, wo = wr := ⟨_, rfl⟩
      go_wp2_with fail
      go_loopw [8, 7] (fun kv cv wr => ∃ k : Nat, k ≤ nb ∧ kv = .int .i64 k ∧ cv = .int .u64 ((mulIn a b (mulOut a b i) i k).2 : Nat) ∧ Blk wr w.heap.size 23 (Us (mulIn a b (mulOut a b i) i k).1) ∧ Below w.heap.size w wr) (fun kv _ _ => nb - (intOf kv).toNat)
      case atStart => exact ⟨0, by omega, rfl, rfl, HI.out.1, HI.out.2⟩
      case round =>
        obtain ⟨k, hk, rfl, rfl, hblk, hbel⟩ := hrel
        have hs := mulIn_small HA.out.2 HB.out.2 (mulOut_small HA.out.2 HB.out.2 i) i k
        have hln := mulIn_length a b (mulOut a b i) i k
        rw [HL.out, ← HN.out.1, ← HN.out.2] at hln
        by_cases hkn : k < nb
        · have hm := mul_small (hs.1 (i + k)) (HA.out.2 i) (HB.out.2 k) hs.2
          have cO : wr.cell? ⟨w.heap.size, i + k, none⟩ = some (.int .u64 ((mulIn a b (mulOut a b i) i k).1.getD (i + k) 0 : Nat)) := (hblk.cell _).trans (Us_get (by omega))
          have cA : wr.cell? ⟨ga, i, none⟩ = some (.int .u64 (a.getD i 0 : Nat)) := ((HA.out.1.below hbel hal).cell _).trans (Us_get (by rw [← HN.out.1]; omega))
          have cB : wr.cell? ⟨gb, k, none⟩ = some (.int .u64 (b.getD k 0 : Nat)) := ((HB.out.1.below hbel hbl).cell _).trans (Us_get (by rw [← HN.out.2]; omega))
          have hf := hblk.frozen (i + k)
          have hS : mulIn a b (mulOut a b i) i (k + 1) = ((mulIn a b (mulOut a b i) i k).1.set (i + k) (((mulIn a b (mulOut a b i) i k).1.getD (i + k) 0 + a.getD i 0 * b.getD k 0 + (mulIn a b (mulOut a b i) i k).2) % 65536), ((mulIn a b (mulOut a b i) i k).1.getD (i + k) 0 + a.getD i 0 * b.getD k 0 + (mulIn a b (mulOut a b i) i k).2) / 65536) := rfl
          have HS := Lib.hid hS
          have HW := Lib.hid (And.intro hblk hbel)
          have hcc := hs.2
          have hoo := hs.1 (i + k)
          have haa := HA.out.2 i
          have hbb := HB.out.2 k
          clear hS hblk hbel hs hln
          generalize (mulIn a b (mulOut a b i) i k).1 = out at *
          generalize (mulIn a b (mulOut a b i) i k).2 = c at *
          generalize out.getD (i + k) 0 = o at *
          generalize a.getD i 0 = x at *
          generalize b.getD k 0 = y at *
          have hxy : (x : Int) * (y : Int) ≤ 4294836225 := by rw [← Int.natCast_mul]; omega
          have hxy0 : 0 ≤ (x : Int) * (y : Int) := Int.mul_nonneg (by omega) (by omega)
          clear hm
          have hik : (i : Int) + (k : Int) < (na : Int) + (nb : Int) := by omega
          have hik0 : 0 ≤ (i : Int) + (k : Int) := by omega
          go_wp2_with fail
          go_quiet (fail)
          go_wp2_with fail
          go_roundw
          case rel =>
            refine ⟨k + 1, by omega, by go_num, ?_, ?_, ?_⟩
            · rw [HS.out]
              simp
            · rw [HS.out]
              exact us_set (HW.out.1.drewN nq) _ (by simp)
            · exact (below_drewN HW.out.2 nq).setCell (p := ⟨w.heap.size, i + k, none⟩) (by simp) _
          case measure => simp [intOf]; omega
        · obtain rfl : k = nb := by omega
          have hz := hblk.cell (i + k)
          rw [Us_get (by omega)] at hz
          have hf := hblk.frozen (i + k)
          have hcc := hs.2
          have HW := Lib.hid (And.intro hblk hbel)
          have hS : mulOut a b (i + 1) = (mulIn a b (mulOut a b i) i k).1.set (i + k) (mulIn a b (mulOut a b i) i k).2 := by rw [HN.out.2]; rfl
          have HS := Lib.hid hS
          clear hS hblk hbel hs hln
          generalize (mulIn a b (mulOut a b i) i k).1 = out at *
          generalize (mulIn a b (mulOut a b i) i k).2 = c at *
          go_wp2_with fail
          go_roundw
          case rel =>
            refine ⟨i + 1, by omega, by go_num, ?_, ?_⟩
            · rw [HS.out]
              exact us_set HW.out.1 _ rfl
            · exact HW.out.2.setCell (p := ⟨w.heap.size, i + k, none⟩) (by simp) _
          case measure => simp [intOf]; omega
    · obtain rfl : i = na := by omega
      go_wp2_with fail
      go_ret
      refine ⟨rfl, ?_, hbel⟩
      rw [HN.out.1] at hblk
      exact hblk

theorem product_len (w : World) (ga gb ca cb na nb : Nat) (a b : List Nat) (hna : a.length = na) (hnb : b.length = nb) (ha : Blk w ga 23 (Us a)) (hb : Blk w gb 23 (Us b)) (sa : S16 a) (sb : S16 b) (la : na ≤ 100) (lb : nb ≤ 100) :
    Calls Tryz.prog 102 #[.slice (some ⟨ga, 0, none⟩) na ca, .slice (some ⟨gb, 0, none⟩) nb cb] w fun e w' => e = .returned (.slice (some ⟨w.heap.size, 0, none⟩) (na + nb) (na + nb)) ∧ Blk w' w.heap.size 23 (Us (prodN a b)) ∧ Below w.heap.size w w' := by
  subst hna hnb
  exact product_any w ga gb ca cb a b ha hb sa sb la lb
theorem powD_succ (y k : Nat) : powD y (k + 1) = prodN (powD y k) (digs y) := rfl
theorem pow_small (j : Nat) (h : j ≤ 3) : 65536 ^ j ≤ 281474976710656 := by
  match j, h with
  | 0, _ | 1, _ | 2, _ | 3, _ => decide
theorem two_small (j : Nat) : 0 < 2 ^ (36 - j) ∧ 2 ^ (36 - j) ≤ 68719476736 := ⟨Nat.two_pow_pos _, by
  have := Nat.pow_le_pow_right (n := 2) (by omega) (show 36 - j ≤ 36 by omega)
  simpa using this⟩
set_option maxHeartbeats 1000000 in
theorem root_any (w : World) (p pw : Nat) (hp : p ≤ 1000) (hw2 : 2 ≤ pw) (hw3 : pw ≤ 3) :
    Calls Tryz.prog 55 #[.int .u64 p, .int .i64 pw] w fun e w' => e = .returned (.int .i64 (rootN p pw : Nat)) ∧ Below w.heap.size w w' := by
  go_enter Tryz.func55, Tryz.ntmps55
  go_wp2_with fail
  go_loopw [5, 6] (fun xv iv wr => ∃ j : Nat, j ≤ 37 ∧ xv = .int .u64 (rootX p pw j : Nat) ∧ iv = .int .i64 (36 - j) ∧ Below w.heap.size w wr) (fun _ iv _ => (intOf iv + 1).toNat)
  case atStart => exact ⟨0, by omega, rfl, rfl, Below.refl _ _⟩
  case round =>
    obtain ⟨j, hj, rfl, rfl, hbel⟩ := hrel
    have hx := rootX_small p pw j hj
    by_cases hj37 : j < 37
    · have h2 := two_small j
      have hX : rootX p pw (j + 1) = if goodR p pw (rootX p pw j + 2 ^ (36 - j)) then rootX p pw j + 2 ^ (36 - j) else rootX p pw j := rfl
      have HX := Lib.hid hX
      have HW := Lib.hid hbel
      have hsz := hbel.size
      clear hX hbel
      generalize rootX p pw j = x at *
      have hcast : (2 : Int) ^ (36 - j) = ((2 ^ (36 - j) : Nat) : Int) := by simp
      have hxe : x ≤ 137438953472 := by have := Nat.two_pow_pos (37 - j); omega
      clear hx
      generalize 2 ^ (36 - j) = e at *
      obtain ⟨y, hy⟩ : ∃ y, y = x + e := ⟨_, rfl⟩
      rw [← hy] at HX
      have hye : (x : Int) + (e : Int) = (y : Int) := by omega
      have hyl : y ≤ 206158430208 := by omega
      have HY := Lib.hid hy
      clear hy
      go_wp2_with fail
      refine (digits_any wr y (by omega)).mono ?_
      rintro e1 w1 ⟨rfl, hd, hb1⟩
      have HD := Lib.hid (And.intro hd (hb1.mono (B' := w.heap.size) hsz))
      clear hd hb1
      clear hye
      go_wp2_with fail
      go_loopw [8, 9] (fun zv kv w2 => ∃ d g : Nat, d + 1 ≤ pw ∧ kv = .int .i64 (1 + d) ∧ zv = .slice (some ⟨g, 0, none⟩) (3 + 3 * d) (3 + 3 * d) ∧ Blk w2 g 23 (Us (powD y d)) ∧ w.heap.size ≤ g ∧ Below w.heap.size w w2) (fun _ kv _ => pw - (intOf kv).toNat)
      case atStart => exact ⟨0, _, by omega, rfl, rfl, HD.out.1, hsz, HW.out.trans HD.out.2⟩
      case round =>
        clear HD
        obtain ⟨d, g, hd, rfl, rfl, hblk, hgs, hbel⟩ := hrel
        have hgl := hblk.lt
        have hbs := hbel.size
        have HB := Lib.hid (And.intro hblk hbel)
        clear hblk hbel
        by_cases hdp : d + 1 < pw
        · go_wp2_with fail
          refine (digits_any _ y (by omega)).mono ?_
          rintro e1 w2 ⟨rfl, hd2, hb2⟩
          have HD := Lib.hid (And.intro hd2 hb2)
          clear hd2 hb2
          go_wp2_with fail
          refine (product_len w2 g _ _ _ (3 + 3 * d) 3 (powD y d) (digs y) (powD_length y d) rfl (HB.out.1.below HD.out.2 hgl) HD.out.1 (powD_small y d) (S16.digs y) (by omega) (by omega)).mono ?_
          rintro e1 w3 ⟨rfl, hb3, hbel3⟩
          have hs2 := HD.out.2.size
          have H3 := Lib.hid (And.intro hb3 (HB.out.2.trans ((HD.out.2.mono hbs).trans (hbel3.mono (by omega)))))
          clear hb3 hbel3
          go_wp2_with fail
          go_roundw
          case rel => exact ⟨d + 1, w2.heap.size, by omega, by go_num, rfl, H3.out.1, by omega, H3.out.2⟩
          case measure => simp [intOf]; omega
        · obtain rfl : pw = d + 1 := by omega
          have hzl := powD_length y d
          have HZ := Lib.hid (And.intro hzl (powD_small y d))
          clear hzl
          go_wp2_with fail
          obtain ⟨wo, rfl⟩ : ∃ wo : World, wo = wr := ⟨_, rfl⟩
          go_loopw [10, 11, 12] (fun av bv kv w2 => ∃ n : Nat, n ≤ 3 + 3 * d ∧ av = .int .u64 ((wholeR (powD y d) (2 * (d + 1)) n).1 : Nat) ∧ bv = .int .u64 ((wholeR (powD y d) (2 * (d + 1)) n).2 : Nat) ∧ kv = .int .i64 (2 + 3 * d - n) ∧ w2 = wo) (fun _ _ kv _ => (intOf kv + 1).toNat)
          case atStart => exact ⟨0, by omega, rfl, rfl, by go_num, rfl⟩
          case round =>
            obtain ⟨n, hn, rfl, rfl, rfl, rfl⟩ := hrel
            have hr := wholeR_small HZ.out.2 (2 * (d + 1)) n (by rw [HZ.out.1]; omega)
            rw [HZ.out.1] at hr
            by_cases hn3 : n < 3 + 3 * d
            · have cZ : wr.cell? ⟨g, 2 + 3 * d - n, none⟩ = some (.int .u64 ((powD y d).getD (2 + 3 * d - n) 0 : Nat)) := (HB.out.1.cell _).trans (Us_get (by rw [HZ.out.1]; omega))
              have hzd := HZ.out.2 (2 + 3 * d - n)
              have hS : wholeR (powD y d) (2 * (d + 1)) (n + 1) = if 2 * (d + 1) ≤ 2 + 3 * d - n then (65536 * (wholeR (powD y d) (2 * (d + 1)) n).1 + (powD y d).getD (2 + 3 * d - n) 0, (wholeR (powD y d) (2 * (d + 1)) n).2) else ((wholeR (powD y d) (2 * (d + 1)) n).1, (wholeR (powD y d) (2 * (d + 1)) n).2 + (powD y d).getD (2 + 3 * d - n) 0) := by
                rw [wholeR, HZ.out.1, show 3 + 3 * d - 1 - n = 2 + 3 * d - n by omega]
              have HS := Lib.hid hS
              clear hS
              generalize wholeR (powD y d) (2 * (d + 1)) n = r at *
              generalize (powD y d).getD (2 + 3 * d - n) 0 = z at *
              obtain ⟨r1, r2⟩ := r
              have hr2 : r2 ≤ 65536 * n := hr.2
              have hki : (0 : Int) ≤ 2 + 3 * (d : Int) - (n : Int) := by omega
              by_cases ht : 2 * (d + 1) ≤ 2 + 3 * d - n
              · have hr1 : r1 ≤ 4294967296 := by
                  have h1 : r1 < 65536 ^ (min n (3 + 3 * d - 2 * (d + 1))) := hr.1
                  have h2 := Nat.pow_le_pow_right (n := 65536) (by omega) (show min n (3 + 3 * d - 2 * (d + 1)) ≤ 2 by omega)
                  have h3 : 65536 ^ 2 = 4294967296 := by decide
                  omega
                clear hr
                have hti : (2 : Int) * ((d : Int) + 1) ≤ 2 + 3 * (d : Int) - (n : Int) := by omega
                go_wp2_with fail
                go_roundw
                case rel =>
                  refine ⟨n + 1, by omega, ?_, ?_, by go_num, trivial⟩
                  · rw [HS.out, if_pos ht]; go_num
                  · rw [HS.out, if_pos ht]
                case measure => simp [intOf]; omega
              · clear hr
                have hti : 2 + 3 * (d : Int) - (n : Int) < 2 * ((d : Int) + 1) := by omega
                go_wp2_with fail
                go_roundw
                case rel =>
                  refine ⟨n + 1, by omega, ?_, ?_, by go_num, trivial⟩
                  · rw [HS.out, if_neg ht]
                  · rw [HS.out, if_neg ht]; go_num
                case measure => simp [intOf]; omega
            · have hki : 2 + 3 * (d : Int) - (n : Int) < 0 := by omega
              have hG : goodR p (d + 1) y = (decide ((wholeR (powD y d) (2 * (d + 1)) n).1 < p) || ((wholeR (powD y d) (2 * (d + 1)) n).1 == p && (wholeR (powD y d) (2 * (d + 1)) n).2 == 0)) := by
                rw [show n = 3 * (d + 1) by omega]
                rfl
              have HG := Lib.hid hG
              clear hG hr
              generalize wholeR (powD y d) (2 * (d + 1)) n = r at *
              obtain ⟨r1, r2⟩ := r
              by_cases h1 : r1 < p
              · have HX1 : Hid (rootX p (d + 1) (j + 1) = y) := Lib.hid (by rw [HX.out, HG.out]; simp [h1])
                go_wp2_with fail
                go_roundw
                case rel => exact ⟨j + 1, by omega, by rw [HX1.out], by go_num, HB.out.2⟩
                case measure => simp [intOf]; omega
              · by_cases h2 : r1 = p
                · subst h2
                  by_cases h3 : r2 = 0
                  · subst h3
                    have HX1 : Hid (rootX r1 (d + 1) (j + 1) = y) := Lib.hid (by rw [HX.out, HG.out]; simp)
                    go_wp2_with fail
                    go_roundw
                    case rel => exact ⟨j + 1, by omega, by rw [HX1.out], by go_num, HB.out.2⟩
                    case measure => simp [intOf]; omega
                  · have HX1 : Hid (rootX r1 (d + 1) (j + 1) = x) := Lib.hid (by rw [HX.out, HG.out]; simp [h3])
                    have q3 : ((r2 : Int) == 0) = false := by simp; omega
                    go_wp2_with fail
                    go_roundw
                    case rel => exact ⟨j + 1, by omega, by rw [HX1.out], by go_num, HB.out.2⟩
                    case measure => simp [intOf]; omega
                · have HX1 : Hid (rootX p (d + 1) (j + 1) = x) := Lib.hid (by rw [HX.out, HG.out]; simp [h1, h2])
                  have q2 : ((r1 : Int) == (p : Int)) = false := by simp; omega
                  go_wp2_with fail
                  go_roundw
                  case rel => exact ⟨j + 1, by omega, by rw [HX1.out], by go_num, HB.out.2⟩
                  case measure => simp [intOf]; omega
    · obtain rfl : j = 37 := by omega
      have hR : ((rootX p pw 37 : Nat) : Int) % 4294967296 = (rootN p pw : Nat) := by unfold rootN; omega
      generalize rootX p pw 37 = x at *
      go_wp2_with fail
      go_ret
      exact ⟨rfl, hbel⟩

end Go.Proofs.YtfkdpndcoegfpaaGreatDoor
end

/-
  The document's table, reckoned by the kernel from its primes: it is the program's own constants. No condition.
-/

section
set_option maxRecDepth 100000
set_option linter.unusedSimpArgs false
set_option linter.unusedVariables false
namespace Go.Proofs.YtfkdpndcoegfpaaGreatDoor
open Go.RowKit

set_option maxRecDepth 1000000 in
theorem squares : [2, 3, 5, 7, 11, 13, 17, 19].map (fun p => rootN p 2) = [1779033703, 3144134277, 1013904242, 2773480762, 1359893119, 2600822924, 528734635, 1541459225] := by decide +kernel
set_option maxRecDepth 1000000 in
theorem cubes0 : [2, 3, 5, 7, 11, 13, 17, 19].map (fun p => rootN p 3) = [1116352408, 1899447441, 3049323471, 3921009573, 961987163, 1508970993, 2453635748, 2870763221] := by decide +kernel
set_option maxRecDepth 1000000 in
theorem cubes1 : [23, 29, 31, 37, 41, 43, 47, 53].map (fun p => rootN p 3) = [3624381080, 310598401, 607225278, 1426881987, 1925078388, 2162078206, 2614888103, 3248222580] := by decide +kernel
set_option maxRecDepth 1000000 in
theorem cubes2 : [59, 61, 67, 71, 73, 79, 83, 89].map (fun p => rootN p 3) = [3835390401, 4022224774, 264347078, 604807628, 770255983, 1249150122, 1555081692, 1996064986] := by decide +kernel
set_option maxRecDepth 1000000 in
theorem cubes3 : [97, 101, 103, 107, 109, 113, 127, 131].map (fun p => rootN p 3) = [2554220882, 2821834349, 2952996808, 3210313671, 3336571891, 3584528711, 113926993, 338241895] := by decide +kernel
set_option maxRecDepth 1000000 in
theorem cubes4 : [137, 139, 149, 151, 157, 163, 167, 173].map (fun p => rootN p 3) = [666307205, 773529912, 1294757372, 1396182291, 1695183700, 1986661051, 2177026350, 2456956037] := by decide +kernel
set_option maxRecDepth 1000000 in
theorem cubes5 : [179, 181, 191, 193, 197, 199, 211, 223].map (fun p => rootN p 3) = [2730485921, 2820302411, 3259730800, 3345764771, 3516065817, 3600352804, 4094571909, 275423344] := by decide +kernel
set_option maxRecDepth 1000000 in
theorem cubes6 : [227, 229, 233, 239, 241, 251, 257, 263].map (fun p => rootN p 3) = [430227734, 506948616, 659060556, 883997877, 958139571, 1322822218, 1537002063, 1747873779] := by decide +kernel
set_option maxRecDepth 1000000 in
theorem cubes7 : [269, 271, 277, 281, 283, 293, 307, 311].map (fun p => rootN p 3) = [1955562222, 2024104815, 2227730452, 2361852424, 2428436474, 2756734187, 3204031479, 3329325298] := by decide +kernel
def primesL : List Nat := [2, 3, 5, 7, 11, 13, 17, 19, 23, 29, 31, 37, 41, 43, 47, 53, 59, 61, 67, 71, 73, 79, 83, 89, 97, 101, 103, 107, 109, 113, 127, 131, 137, 139, 149, 151, 157, 163, 167, 173, 179, 181, 191, 193, 197, 199, 211, 223, 227, 229, 233, 239, 241, 251, 257, 263, 269, 271, 277, 281, 283, 293, 307, 311]
theorem primes_parts : primesL = [2, 3, 5, 7, 11, 13, 17, 19] ++ [23, 29, 31, 37, 41, 43, 47, 53] ++ [59, 61, 67, 71, 73, 79, 83, 89] ++ [97, 101, 103, 107, 109, 113, 127, 131] ++ [137, 139, 149, 151, 157, 163, 167, 173] ++ [179, 181, 191, 193, 197, 199, 211, 223] ++ [227, 229, 233, 239, 241, 251, 257, 263] ++ [269, 271, 277, 281, 283, 293, 307, 311] := rfl
theorem cubes_all : primesL.map (fun p => rootN p 3) = [1116352408, 1899447441, 3049323471, 3921009573, 961987163, 1508970993, 2453635748, 2870763221] ++ [3624381080, 310598401, 607225278, 1426881987, 1925078388, 2162078206, 2614888103, 3248222580] ++ [3835390401, 4022224774, 264347078, 604807628, 770255983, 1249150122, 1555081692, 1996064986] ++ [2554220882, 2821834349, 2952996808, 3210313671, 3336571891, 3584528711, 113926993, 338241895] ++ [666307205, 773529912, 1294757372, 1396182291, 1695183700, 1986661051, 2177026350, 2456956037] ++ [2730485921, 2820302411, 3259730800, 3345764771, 3516065817, 3600352804, 4094571909, 275423344] ++ [430227734, 506948616, 659060556, 883997877, 958139571, 1322822218, 1537002063, 1747873779] ++ [1955562222, 2024104815, 2227730452, 2361852424, 2428436474, 2756734187, 3204031479, 3329325298] := by
  rw [primes_parts]
  simp only [List.map_append, cubes0, cubes1, cubes2, cubes3, cubes4, cubes5, cubes6, cubes7]
theorem squares_all : (primesL.take 8).map (fun p => rootN p 2) = [1779033703, 3144134277, 1013904242, 2773480762, 1359893119, 2600822924, 528734635, 1541459225] := squares
theorem table_now : tabN (primesN 310) = (start8.list ++ Ks).map BitVec.toNat := by
  have e : primesN 310 = primesL := primes_now
  unfold tabN
  rw [e, cubes_all, squares_all]
  decide +kernel
theorem table_is : Vn (tabN (primesN 310)) = Wi start8.list ++ Wi Ks := by
  rw [table_now]
  simp only [Vn, Wi, nw, List.map_map, List.map_append]
  rfl

end Go.Proofs.YtfkdpndcoegfpaaGreatDoor
end

/-
  The document's Make: the table of the program's own constants. No condition.
-/

section
set_option maxRecDepth 100000
set_option linter.unusedSimpArgs false
set_option linter.unusedVariables false
namespace Go.Proofs.YtfkdpndcoegfpaaGreatDoor
open Go.RowKit

theorem root_2 (w : World) (p r : Nat) (hp : p ≤ 1000) (hr : Hid (r = rootN p 2)) : Calls Tryz.prog 55 #[.int .u64 p, .int .i64 2] w fun e w' => e = .returned (.int .i64 (r : Nat)) ∧ Below w.heap.size w w' := by
  rw [hr.out]
  exact root_any w p 2 hp (by omega) (by omega)
theorem root_3 (w : World) (p r : Nat) (hp : p ≤ 1000) (hr : Hid (r = rootN p 3)) : Calls Tryz.prog 55 #[.int .u64 p, .int .i64 3] w fun e w' => e = .returned (.int .i64 (r : Nat)) ∧ Below w.heap.size w w' := by
  rw [hr.out]
  exact root_any w p 3 hp (by omega) (by omega)

theorem padN_set {n : Nat} {l : List Nat} (h : l.length < n) (x : Nat) : (padN n l).set l.length x = padN n (l ++ [x]) := by
  unfold padN
  rw [List.set_append_right _ _ (Nat.le_refl _), Nat.sub_self]
  obtain ⟨m, hm⟩ : ∃ m, n - l.length = m + 1 := ⟨n - l.length - 1, by omega⟩
  rw [hm, List.replicate_succ, List.set_cons_zero, List.append_assoc]
  have : n - (l ++ [x]).length = m := by simp; omega
  rw [this]
  rfl
theorem padN_length {n : Nat} {l : List Nat} (h : l.length ≤ n) : (padN n l).length = n := by simp [padN]; omega
theorem tabN_length {ps : List Nat} (h : ps.length ≤ 64) : (tabN ps).length = 72 := by
  unfold tabN
  rw [List.length_append, padN_length (by simp; omega), padN_length (by simpa using h)]
theorem tab_cube {ps : List Nat} (h : ps.length < 64) (x : Nat) (l : List Nat) (hl : l.length = 8) : (l ++ padN 64 (ps.map fun p => rootN p 3)).set (8 + ps.length) (rootN x 3) = l ++ padN 64 ((ps ++ [x]).map fun p => rootN p 3) := by
  rw [List.set_append_right _ _ (by omega), hl, Nat.add_sub_cancel_left]
  have := padN_set (n := 64) (l := ps.map fun p => rootN p 3) (by simpa using h) (rootN x 3)
  rw [List.length_map] at this
  rw [this, List.map_append]
  rfl
theorem tab_late {ps : List Nat} (h : ps.length < 64) (h8 : 8 ≤ ps.length) (x : Nat) : (tabN ps).set (8 + ps.length) (rootN x 3) = tabN (ps ++ [x]) := by
  unfold tabN
  rw [tab_cube h x _ (padN_length (by simp; omega)), List.take_append_of_le_length h8]
theorem tab_early {ps : List Nat} (h8 : ps.length < 8) (x : Nat) : ((tabN ps).set ps.length (rootN x 2)).set (8 + ps.length) (rootN x 3) = tabN (ps ++ [x]) := by
  unfold tabN
  have e := padN_set (n := 8) (l := (ps.take 8).map fun p => rootN p 2) (by simp; omega) (rootN x 2)
  have el : ((ps.take 8).map fun p => rootN p 2).length = ps.length := by simp; omega
  rw [el] at e
  rw [List.set_append_left _ _ (by rw [padN_length (by simp; omega)]; omega), e, tab_cube (by omega) x _ (padN_length (by simp; omega))]
  rw [List.take_of_length_le (l := ps) (by omega), List.take_of_length_le (l := ps ++ [x]) (by simp; omega)]
  simp only [List.map_append, List.map_cons, List.map_nil]
theorem Vn_set (l : List Nat) (j x : Nat) : (Vn l).set j (.int .i64 x) = Vn (l.set j x) := by
  unfold Vn
  rw [List.map_set]
theorem Vn_get {l : List Nat} {j : Nat} (h : j < l.length) : ∃ n : Int, (Vn l)[j]? = some (.int .i64 n) := ⟨l[j], by simp [Vn, List.getElem?_eq_getElem h]⟩
theorem Vn_oneCell (xs : List Nat) : ∀ u ∈ Vn xs, u.oneCell' = true := by
  intro u hu
  simp only [Vn, List.mem_map] at hu
  obtain ⟨x, _, rfl⟩ := hu
  rfl
theorem zero29 (w : World) : (zeroValue 38).run Tryz.prog w = .ok (.agg (List.replicate 72 (Value.int .i64 0)).toArray) w :=
  (zero_of_info (P := Tryz.prog) (t := 38) (v := .agg (List.replicate 72 (Value.int .i64 0)).toArray) (n := 72) (by kernel_rfl)).1 w
attribute [local go_sem] zero29
theorem primes_on (p : Nat) (h : 2 ≤ p) : primesN (p + 1 - 2) = if isP p then primesN (p - 2) ++ [p] else primesN (p - 2) := by
  rw [show p + 1 - 2 = (p - 2) + 1 by omega, primesN, show p - 2 + 2 = p by omega]
theorem divs_on (p q : Nat) (h : 1 ≤ q) : divsN p (q + 1 - 1) = divsN p (q - 1) + if p % q = 0 then 1 else 0 := by
  rw [show q + 1 - 1 = (q - 1) + 1 by omega, divsN, show q - 1 + 1 = q by omega]

set_option maxHeartbeats 1000000 in
set_option maxRecDepth 100000 in
theorem make_any (w : World) : Calls Tryz.prog 13 #[] w fun e w' => e = .returned (.agg (Wi start8.list ++ Wi Ks).toArray) ∧ Below w.heap.size w w' := by
  have i29 : (Tryz.prog.info? 38).map (·.size) = some 72 := by kernel_rfl
  have I29 := Lib.hid i29
  clear i29
  go_enter Tryz.func13, Tryz.ntmps13
  go_wp2_with fail
  go_loopw [2, 3] (fun nv pv wr => ∃ p : Nat, 2 ≤ p ∧ p ≤ 312 ∧ pv = .int .u64 p ∧ nv = .int .i64 ((primesN (p - 2)).length : Nat) ∧ Blk wr (w.heap.size + 1) 38 (Vn (tabN (primesN (p - 2)))) ∧ Blk wr w.heap.size 38 (List.replicate 72 (.int .i64 0)) ∧ Below w.heap.size w wr) (fun _ pv _ => 312 - (intOf pv).toNat)
  case atStart => exact ⟨2, by omega, by omega, rfl, rfl, blk_two w _ _ (List.replicate 72 (.int .i64 0)) (List.replicate 72 (.int .i64 0)), (Blk.new w _ (List.replicate 72 (.int .i64 0))).alloc _, ((Below.refl _ _).alloc (Nat.le_refl _) _).alloc (by simp) _⟩
  case round =>
    obtain ⟨p, hp2, hp3, rfl, rfl, hb1, hb0, hbel⟩ := hrel
    have HW := Lib.hid (And.intro hb1 (And.intro hb0 hbel))
    have hs0 := hbel.size
    have hs1 := hb1.lt
    clear hb1 hb0 hbel
    by_cases hn : (primesN (p - 2)).length < 64
    · have hp311 : p ≤ 311 := by
        rcases Nat.lt_or_ge p 312 with h | h
        · omega
        · exfalso
          obtain rfl : p = 312 := by omega
          rw [show 312 - 2 = 310 by omega, primes_now] at hn
          simp at hn
      have hon := Lib.hid (primes_on p hp2)
      have htl := tabN_length (ps := primesN (p - 2)) (by omega)
      have hte := Lib.hid (fun h => tab_early (ps := primesN (p - 2)) h p)
      have htt := Lib.hid (fun h => tab_late (ps := primesN (p - 2)) hn h p)
      generalize primesN (p - 2) = ps at *
      obtain ⟨m, hm⟩ : ∃ m, m = ps.length := ⟨_, rfl⟩
      rw [← hm] at hn hte htt
      rw [← hm]
      have HM := Lib.hid (And.intro hm htl)
      clear hm htl
      obtain ⟨wo, rfl⟩ : ∃ wo : World, wo = wr := ⟨_, rfl⟩
      go_wp2_with fail
      go_loopw [4, 5] (fun cv qv wr => ∃ q : Nat, 1 ≤ q ∧ q ≤ p + 1 ∧ qv = .int .u64 q ∧ cv = .int .i64 (divsN p (q - 1) : Nat) ∧ wr = wo) (fun _ qv _ => p + 1 - (intOf qv).toNat)
      case atStart => exact ⟨1, by omega, by omega, rfl, rfl, rfl⟩
      case round =>
        obtain ⟨q, hq1, hq2, rfl, rfl, rfl⟩ := hrel
        have hdl := divsN_le p (q - 1)
        by_cases hqp : q ≤ p
        · have hdo := Lib.hid (divs_on p q hq1)
          generalize divsN p (q - 1) = c at *
          by_cases hz : p % q = 0
          · have hz1 : ((p : Int) % (q : Int) == 0) = true := by
              rw [← Int.natCast_emod, hz]; rfl
            have hz2 : (p : Int) % (q : Int) = 0 := by
              rw [← Int.natCast_emod, hz]; rfl
            clear hz2
            go_wp2_with fail
            go_roundw
            case rel => exact ⟨q + 1, by omega, by omega, by go_num, by rw [hdo.out, if_pos hz]; go_num, trivial⟩
            case measure => simp [intOf]; omega
          · have hz1 : ((p : Int) % (q : Int) == 0) = false := by
              rw [← Int.natCast_emod]; simp; omega
            go_wp2_with fail
            go_roundw
            case rel => exact ⟨q + 1, by omega, by omega, by go_num, by rw [hdo.out, if_neg hz]; go_num, trivial⟩
            case measure => simp [intOf]; omega
        · obtain rfl : q = p + 1 := by omega
          have hip : isP p = (divsN p (p + 1 - 1) == 2) := rfl
          have HI := Lib.hid hip
          clear hip
          generalize divsN p (p + 1 - 1) = c at *
          by_cases hc : c = 2
          · subst hc
            have hon2 := Lib.hid (show primesN (p + 1 - 2) = ps ++ [p] by rw [hon.out, HI.out]; rfl)
            obtain ⟨z0, hz0⟩ := Vn_get (l := tabN ps) (j := m) (by rw [HM.out.2]; omega)
            obtain ⟨z1, hz1⟩ := Vn_get (l := tabN ps) (j := 8 + m) (by rw [HM.out.2]; omega)
            have HZ := Lib.hid (And.intro hz0 hz1)
            clear hz0 hz1
            obtain ⟨r2, hr2⟩ : ∃ r, r = rootN p 2 := ⟨_, rfl⟩
            obtain ⟨r3, hr3⟩ : ∃ r, r = rootN p 3 := ⟨_, rfl⟩
            have HR2 := Lib.hid hr2
            have HR3 := Lib.hid hr3
            clear hr2 hr3
            by_cases hm8 : m < 8
            · go_wp2_with fail
              refine (root_2 _ p r2 (by omega) HR2).mono ?_
              rintro e w2 ⟨rfl, hb2⟩
              have HB2 := Lib.hid hb2
              have hb1 := HW.out.1.below hb2 (by omega)
              have hc1 := (hb1.cell m).trans HZ.out.1
              have hf1 := hb1.frozen m
              have hs2 := hb2.size
              clear hb2
              have HB1 := Lib.hid (hb1.set_ m (.int .i64 r2))
              clear hb1
              go_wp2_with fail
              refine (root_3 _ p r3 (by omega) HR3).mono ?_
              rintro e w3 ⟨rfl, hb3⟩
              have hb1 := HB1.out.below hb3 (by simp; omega)
              have hc2 := (hb1.cell (8 + m)).trans ((List.getElem?_set_ne (by omega)).trans HZ.out.2)
              have hf2 := hb1.frozen (8 + m)
              have h0 := (((HW.out.2.1.below HB2.out (by omega)).far (p := ⟨w.heap.size + 1, m, none⟩) (by simp) (.int .i64 r2)).below hb3 (by simp; omega))
              have hbel := ((HW.out.2.2.trans (HB2.out.mono hs0)).setCell (p := ⟨w.heap.size + 1, m, none⟩) (by simp) (.int .i64 r2)).trans (hb3.mono (by simp; omega))
              have H3 := Lib.hid (And.intro hb1 (And.intro h0 hbel))
              clear hb1 hb3 h0 hbel hc1 hf1
              go_wp2_with fail
              go_roundw
              case rel =>
                refine ⟨p + 1, by omega, by omega, by go_num, ?_, ?_, ?_, ?_⟩
                · rw [hon2.out, List.length_append, ← HM.out.1]; go_num
                · rw [hon2.out, ← hte.out hm8, ← HR2.out, ← HR3.out, ← Vn_set, ← Vn_set]
                  exact H3.out.1.set_ (8 + m) (.int .i64 r3)
                · exact H3.out.2.1.far (p := ⟨w.heap.size + 1, 8 + m, none⟩) (by simp) _
                · exact H3.out.2.2.setCell (p := ⟨w.heap.size + 1, 8 + m, none⟩) (by simp) _
              case measure => simp [intOf]; omega
            · go_wp2_with fail
              refine (root_3 _ p r3 (by omega) HR3).mono ?_
              rintro e w3 ⟨rfl, hb3⟩
              have hb1 := HW.out.1.below hb3 (by omega)
              have hc2 := (hb1.cell (8 + m)).trans HZ.out.2
              have hf2 := hb1.frozen (8 + m)
              have h0 := HW.out.2.1.below hb3 (by omega)
              have hbel := HW.out.2.2.trans (hb3.mono hs0)
              have H3 := Lib.hid (And.intro hb1 (And.intro h0 hbel))
              clear hb1 hb3 h0 hbel
              go_wp2_with fail
              go_roundw
              case rel =>
                refine ⟨p + 1, by omega, by omega, by go_num, ?_, ?_, ?_, ?_⟩
                · rw [hon2.out, List.length_append, ← HM.out.1]; go_num
                · rw [hon2.out, ← htt.out (by omega), ← HR3.out, ← Vn_set]
                  exact H3.out.1.set_ (8 + m) (.int .i64 r3)
                · exact H3.out.2.1.far (p := ⟨w.heap.size + 1, 8 + m, none⟩) (by simp) _
                · exact H3.out.2.2.setCell (p := ⟨w.heap.size + 1, 8 + m, none⟩) (by simp) _
              case measure => simp [intOf]; omega
          · have hon2 := Lib.hid (show primesN (p + 1 - 2) = ps by rw [hon.out, HI.out, if_neg (by simp [hc])])
            have q1 : ((c : Int) == 2) = false := by simp; omega
            have q2 : ((c : Int) != 2) = true := by simp; omega
            go_wp2_with fail
            go_roundw
            case rel => exact ⟨p + 1, by omega, by omega, by go_num, by rw [hon2.out, ← HM.out.1], by rw [hon2.out]; exact HW.out.1, HW.out.2.1, HW.out.2.2⟩
            case measure => simp [intOf]; omega
    · have hp312 : p = 312 := by
        rcases Nat.lt_or_ge p 312 with h | h
        · exact absurd (primes_63 (k := p - 2) (by omega)) hn
        · omega
      have hT : Vn (tabN (primesN (p - 2))) = Wi start8.list ++ Wi Ks := by rw [hp312]; exact table_is
      have hW1 := HW.out.1
      rw [hT] at hW1
      have hl72 : (Wi start8.list ++ Wi Ks).length = 72 := by simp [Wi_length, S8.list, Ks, rootsZ]
      have hone : ∀ u ∈ Wi start8.list ++ Wi Ks, u.oneCell' = true := by
        intro u hu
        rcases List.mem_append.1 hu with hu | hu
        · exact Wi_oneCell _ u hu
        · exact Wi_oneCell _ u hu
      have H1 := Lib.hid (And.intro hW1 hone)
      clear hT hW1 hone
      obtain ⟨T, hT⟩ : ∃ T, T = Wi start8.list ++ Wi Ks := ⟨_, rfl⟩
      rw [← hT] at H1 hl72
      have HT := Lib.hid hT
      clear hT
      generalize (primesN (p - 2)).length = m at *
      go_wp2_with (first
        | (refine wpList_load_mid rfl 38 (.tmp 1) rfl (w.heap.size + 1) 0 rfl _ _ H1.out.1.range Tryz.underlying38 rfl (I29.out.trans (by rw [hl72])) ?_)
        | (refine wpList_store_blk rfl 38 (.tmp 0) (.tmp 37) rfl w.heap.size 0 T rfl rfl HW.out.2.1 (by simp [hl72]) (I29.out.trans (by simp [hl72])) H1.out.2 ?_; intro wF hF hO))
      rw [over_whole (by simp [hl72])] at hF
      refine bodyPost_ret (v := .agg T.toArray) ?_ rfl ⟨by rw [HT.out], ?_⟩
      · exact ret_cell rfl rfl (run_loadVar_mid _ _ 0 38 _ _ hF.range Tryz.underlying38 rfl (I29.out.trans (by rw [hl72])))
      · exact HW.out.2.2.trans (hO.below (B := w.heap.size) (by omega) (by simp))

end Go.Proofs.YtfkdpndcoegfpaaGreatDoor
end
