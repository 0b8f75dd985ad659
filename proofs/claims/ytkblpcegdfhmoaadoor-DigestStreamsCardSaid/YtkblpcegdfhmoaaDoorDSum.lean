/-
  Sum and Write. Conditions: the stream is known; the constants lie in their variable; at most 2^49 bytes in all.
-/
import Derived.Test.YtkblpcegdfhmoaaDoorDTell
namespace Go.Proofs.YtkblpcegdfhmoaaDoor
open Go.RowKit

/-- The digest, plainly. -/
def full (m : List B8) : List B8 := m ++ endB m.length
def sha (ks : List B32) (m : List B8) : List B8 := outB (foldN ks (full m) ((full m).length / 64)) 8
theorem sha_length (ks : List B32) (m : List B8) : (sha ks m).length = 32 := outB_length _ 8

theorem txt_of_owned {w : World} {B p g n c : Nat} {bs : List B8} (h : w.ownsRow B 5 1 (.slice (some ⟨g, 0, none⟩) n c) n (Vb bs)) (hp : p < B) : Txt w p (some ⟨g, 0, none⟩) n c bs := by
  have hl : bs.length = n := by have := h.1; rw [Vb_length] at this; omega
  have hgb : B ≤ g ∧ n ≤ c ∧ c ≤ maxLen := by
    rcases h.2 with ⟨h', _⟩ | ⟨g', cap', cur, h', h1, _, h2, h3, _, _⟩
    · simp at h'
    · simp only [Value.slice.injEq, Option.some.injEq, Addr.mk.injEq, and_true, true_and] at h'
      obtain ⟨rfl, rfl⟩ := h'
      exact ⟨h1, h2, h3⟩
  refine ⟨hl, hgb.2.1, hgb.2.2, fun _ => ⟨g, 0, rfl, by omega, fun j hj => ?_⟩⟩
  rw [Nat.zero_add, h.cellAt j (by omega), Vb_get, List.getD_eq_getElem?_getD, List.getElem?_eq_getElem (by omega)]
  rfl

theorem IsStr.words {ks : List B32} {w : World} {p : Nat} {m : List B8} (h : IsStr ks w p m) (hm : 0 < m.length) : ∃ tl, Blk w p 44 (Wd (foldN ks m (m.length / 64)).list ++ tl) := by
  obtain ⟨ws, rs, hb, h1, h2, h3, h4⟩ := h
  rw [h3 hm] at hb
  exact ⟨_, hb⟩
theorem IsStr.len {ks : List B32} {w : World} {p : Nat} {m : List B8} (h : IsStr ks w p m) : w.cell? ⟨p, 72, none⟩ = some (.int .i64 (m.length : Nat)) := by
  obtain ⟨ws, rs, hb, h1, h2, h3, h4⟩ := h
  exact cell72 hb h1 h2

theorem fork_str (ks : List B32) (w : World) (p : Nat) (m : List B8) (h : IsStr ks w p m) : Calls Tryd.prog 17 #[.pointer (some ⟨p, 0, none⟩)] w fun e w' => ∃ q, e = .returned (.pointer (some ⟨q, 0, none⟩)) ∧ w.heap.size ≤ q ∧ IsStr ks w' q m ∧ Below w.heap.size w w' := by
  obtain ⟨ws, rs, hb, h1, h2, h3, h4⟩ := h
  refine (fork_any w p _ (strCells_oneCell ws rs m.length) (strCells_length h1 h2) hb).mono ?_
  rintro e w' ⟨q, rfl, hq, hb', hbel⟩
  exact ⟨q, rfl, hq, ⟨ws, rs, hb', h1, h2, h3, h4⟩, hbel⟩
theorem fork_str_nil (ks : List B32) (w : World) : Calls Tryd.prog 17 #[.pointer none] w fun e w' => ∃ q, e = .returned (.pointer (some ⟨q, 0, none⟩)) ∧ w.heap.size ≤ q ∧ IsStr ks w' q [] ∧ Below w.heap.size w w' := by
  refine (fork_nil w).mono ?_
  rintro e w' ⟨rfl, hb, hbel⟩
  exact ⟨_, rfl, Nat.le_refl _, zero_str ks hb, hbel⟩

/-- A stream, or nil, that was told m. -/
def PtrStr (ks : List B32) (w : World) (a : Option Addr) (m : List B8) : Prop := (a = none ∧ m = []) ∨ ∃ p, a = some ⟨p, 0, none⟩ ∧ IsStr ks w p m
theorem fork_ptr (ks : List B32) (w : World) (a : Option Addr) (m : List B8) (h : PtrStr ks w a m) : Calls Tryd.prog 17 #[.pointer a] w fun e w' => ∃ q, e = .returned (.pointer (some ⟨q, 0, none⟩)) ∧ w.heap.size ≤ q ∧ IsStr ks w' q m ∧ Below w.heap.size w w' := by
  rcases h with ⟨rfl, rfl⟩ | ⟨p, rfl, h⟩
  · exact fork_str_nil ks w
  · exact fork_str ks w p m h

set_option maxHeartbeats 1000000 in
set_option maxRecDepth 100000 in
theorem sum_any (ks : List B32) (w : World) (a : Option Addr) (m : List B8) (hK : Roots ks w) (h : PtrStr ks w a m) (hm : m.length ≤ 562949953421312) :
    Calls Tryd.prog 19 #[.pointer a] w fun e w' => e = .returned (.agg (Vb (sha ks m)).toArray) ∧ Below w.heap.size w w' := by
  have hpos := hK.pos
  have h1 : PtrStr ks (w.alloc (.cells (List.replicate 32 (Value.int .u8 0)).toArray 31)) a m := by
    rcases h with h | ⟨p, rfl, h⟩
    · exact .inl h
    · exact .inr ⟨p, rfl, h.below ((Below.refl _ _).alloc (Nat.le_refl _) _) h.lt⟩
  have HK := Lib.hid hK
  clear hK h
  go_enter Tryd.func19, Tryd.ntmps19
  go_wp2_with fail
  refine (fork_ptr ks _ a m h1).mono ?_
  clear h1
  rintro e w1 ⟨q, rfl, hq, hs1, hb1⟩
  have HR1 := Lib.hid ((Blk.new w 31 (List.replicate 32 (.int .u8 0))).below hb1 (by simp))
  have hb1' : Below w.heap.size w w1 := ((Below.refl _ _).alloc (Nat.le_refl _) _).trans (hb1.mono (by simp))
  have hsz1 := hb1'.size
  have hq1 := hs1.lt
  have c72 := hs1.len
  have HS1 := Lib.hid hs1
  have HB1 := Lib.hid hb1'
  have hq0 : w.heap.size < q := by simp at hq; omega
  clear hs1 hb1 hb1'
  go_wp2_with fail
  refine (ending_any w1 m.length (by omega)).mono ?_
  rintro e w2 ⟨g, c, rfl, hown, hb2⟩
  have ht2 : Txt w2 q (some ⟨g, 0, none⟩) (endB m.length).length c (endB m.length) := txt_of_owned hown hq1
  have hs2 := HS1.out.below hb2 hq1
  have hB2 : Below w.heap.size w w2 := HB1.out.trans (hb2.mono hsz1)
  have hK2 := HK.out.below hB2 hpos
  have hR2 := HR1.out.below hb2 (by omega)
  have HOLD := Lib.hid (And.intro ht2 (And.intro hs2 (And.intro hB2 (And.intro hK2 hR2))))
  clear hown ht2 hs2 hB2 hK2 hR2 hb2
  go_wp2_with fail
  have hel := endB_length m.length
  have hgl := gap_lt m.length
  refine (tell_any ks w2 q m (some ⟨g, 0, none⟩) (endB m.length).length c (endB m.length) (by omega) HOLD.out.2.2.2.1 HOLD.out.2.1 HOLD.out.1 (by omega)).mono ?_
  rintro e w3 ⟨rfl, hs3, ho3⟩
  have hB3 : Below w.heap.size w w3 := HOLD.out.2.2.1.trans (ho3.below (B := w.heap.size) HOLD.out.2.2.1.size (by simp; omega))
  have hR3 := HOLD.out.2.2.2.2.only ho3 (by simp; omega)
  obtain ⟨tl, hw3⟩ := hs3.words (by rw [List.length_append]; omega)
  have H3 := Lib.hid (And.intro hB3 (And.intro hR3 hw3))
  clear hs3 ho3 hB3 hR3 hw3
  go_wp2_with fail
  refine (bytes_any w3 q _ tl H3.out.2.2).mono ?_
  rintro e w4 ⟨he, hb4⟩
  have he2 : e = .returned (.agg (Vb (sha ks m)).toArray) := he
  clear he
  subst he2
  have hB4 : Below w.heap.size w w4 := H3.out.1.trans (hb4.mono H3.out.1.size)
  have hR4 : Blk w4 w.heap.size 31 (List.replicate 32 (.int .u8 0)) := H3.out.2.1.below hb4 (by have := H3.out.2.1.lt; exact this)
  have H4 := Lib.hid (And.intro hB4 hR4)
  clear hb4 hB4 hR4
  go_wp2_with (refine wpList_store_blk rfl 31 (.tmp 2) (.tmp 16) rfl w.heap.size 0 (Vb (sha ks m)) rfl rfl H4.out.2 (by simp [Vb_length, sha_length]) (info31.trans (by simp [Vb_length, sha_length])) (Vb_oneCell _) ?_; intro w5 hA hO)
  rw [over_whole (by simp [Vb_length, sha_length])] at hA
  refine bodyPost_ret (v := .agg (Vb (sha ks m)).toArray) ?_ rfl ⟨rfl, ?_⟩
  · exact ret_cell rfl rfl (run_loadVar_mid _ _ 0 31 _ _ hA.range Tryd.underlying31 rfl (info31.trans (by simp [Vb_length, sha_length])))
  · exact H4.out.1.trans (hO.below (B := w.heap.size) H4.out.1.size (by simp))

/-- Texts: so many slices in memory, outside block p, and what they hold. -/
structure Txts (w : World) (p : Nat) (L : Option Addr) (n : Nat) (xs : List (List B8)) : Prop where
  len : xs.length = n
  cells : 0 < n → ∃ g o, L = some ⟨g, o, none⟩ ∧ g ≠ p ∧ ∀ i x, xs[i]? = some x → ∃ A k c, w.cell? ⟨g, o + i, none⟩ = some (.slice A k c) ∧ Txt w p A k c x
theorem Txts.only {w w' : World} {p : Nat} {L : Option Addr} {n : Nat} {xs : List (List B8)} (h : Txts w p L n xs) (ho : Only [p] w w') : Txts w' p L n xs := by
  refine ⟨h.len, fun hn => ?_⟩
  obtain ⟨g, o, hL, hg, hc⟩ := h.cells hn
  refine ⟨g, o, hL, hg, fun i x hx => ?_⟩
  obtain ⟨A, k, c, h0, ht⟩ := hc i x hx
  refine ⟨A, k, c, ?_, ht.only ho⟩
  rw [← h0]
  unfold World.cell?
  rw [show (⟨g, o + i, none⟩ : Addr).block = g from rfl, ho.block g (World.block_lt_of_cell? w _ h0) (by simp [hg])]
theorem Txts.below {w w' : World} {p B : Nat} {L : Option Addr} {n : Nat} {xs : List (List B8)} (h : Txts w p L n xs) (ho : Below B w w') (hB : w.heap.size ≤ B) : Txts w' p L n xs := by
  refine ⟨h.len, fun hn => ?_⟩
  obtain ⟨g, o, hL, hg, hc⟩ := h.cells hn
  refine ⟨g, o, hL, hg, fun i x hx => ?_⟩
  obtain ⟨A, k, c, h0, ht⟩ := hc i x hx
  refine ⟨A, k, c, (ho.cell ?_).trans h0, ht.below ho hB⟩
  have h1 : g < w.heap.size := World.block_lt_of_cell? w _ h0
  show g < B
  omega

theorem write_nil (w : World) (L : Option Addr) (n c : Nat) : Calls Tryd.prog 16 #[.pointer none, .slice L n c] w fun e w' => e = .returned (.pointer none) ∧ w = w' := by
  go_enter Tryd.func16, Tryd.ntmps16
  go_wp2
  go_ret
  exact ⟨rfl, rfl⟩

theorem take_flat {xs : List (List B8)} {i : Nat} {x : List B8} (h : xs[i]? = some x) : (xs.take (i + 1)).flatten = (xs.take i).flatten ++ x := by
  obtain ⟨hi, rfl⟩ := List.getElem?_eq_some_iff.1 h
  rw [List.take_succ_eq_append_getElem hi, List.flatten_append]
  simp
theorem take_flat_le (xs : List (List B8)) (i : Nat) : (xs.take i).flatten.length ≤ xs.flatten.length := by
  conv => rhs; rw [← List.take_append_drop i xs, List.flatten_append, List.length_append]
  omega

set_option maxHeartbeats 1000000 in
set_option maxRecDepth 100000 in
theorem write_any (ks : List B32) (w : World) (p : Nat) (m : List B8) (L : Option Addr) (n c : Nat) (xs : List (List B8)) (hp : 0 < p) (hK : Roots ks w) (hs : IsStr ks w p m) (ht : Txts w p L n xs) (hn : n ≤ 9223372036854775807) (hm : m.length + xs.flatten.length ≤ 562949953421312) :
    Calls Tryd.prog 16 #[.pointer (some ⟨p, 0, none⟩), .slice L n c] w fun e w' => e = .returned (.pointer (some ⟨p, 0, none⟩)) ∧ IsStr ks w' p (m ++ xs.flatten) ∧ Only [p] w w' := by
  have HK := Lib.hid hK
  have HS := Lib.hid hs
  have HT := Lib.hid ht
  clear hK hs ht
  go_enter Tryd.func16, Tryd.ntmps16
  go_wp2_with fail
  go_loopw [11] (fun i wr => ∃ k : Nat, k ≤ n ∧ i = .int .i64 k ∧ IsStr ks wr p (m ++ (xs.take k).flatten) ∧ Only [p] w wr) (fun i _ => n - (intOf i).toNat)
  case atStart => exact ⟨0, by omega, rfl, by simpa using HS.out, Only.refl _ _⟩
  case round =>
    obtain ⟨k, hk, rfl, hs, ho⟩ := hrel
    by_cases hkn : k < n
    · obtain ⟨g, o, rfl, hgp, hc⟩ := (HT.out.only ho).cells (by omega)
      have hl := HT.out.len
      obtain ⟨A, kk, cc, hcell, htx⟩ := hc k xs[k] (List.getElem?_eq_getElem (by omega))
      have hflat := take_flat (xs := xs) (i := k) (List.getElem?_eq_getElem (by omega))
      have hfl := take_flat_le xs (k + 1)
      rw [hflat, List.length_append] at hfl
      have hxl := htx.len
      generalize xs[k] = x at htx hflat hfl hxl
      have HX := Lib.hid (And.intro htx (And.intro hflat (And.intro hs ho)))
      clear hc htx hflat hs ho
      go_wp2_with (go_at_call 27; refine (tell_any ks wr p (m ++ (xs.take k).flatten) A kk cc x hp (HK.out.only HX.out.2.2.2 (by simp; omega)) HX.out.2.2.1 HX.out.1 (by rw [List.length_append]; omega)).mono ?_; rintro e w2 ⟨rfl, h2, o2⟩)
      go_roundw
      case rel => exact ⟨k + 1, by omega, by go_num, by rw [HX.out.2.1, ← List.append_assoc]; exact h2, HX.out.2.2.2.trans o2⟩
      case measure => simp [intOf]; omega
    · obtain rfl : k = n := by omega
      have hl := HT.out.len
      rw [List.take_of_length_le (by omega)] at hs
      go_wp2
      go_ret
      exact ⟨rfl, hs, ho⟩

end Go.Proofs.YtkblpcegdfhmoaaDoor
