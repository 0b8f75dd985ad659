/-
  Of and Hex. Conditions: the texts are known; the constants lie in their variable; at most 2^49 bytes in all.
-/
import Derived.Test.YtkblpcegdfhmoaaDoorDKernel
import Derived.Laws.IdiomStrings
namespace Go.Proofs.YtkblpcegdfhmoaaDoor
open Go.RowKit

theorem Txt.at {w : World} {p q : Nat} {A : Option Addr} {n c : Nat} {bs : List B8} (h : Txt w p A n c bs) (hq : w.heap.size ≤ q) : Txt w q A n c bs := by
  refine ⟨h.len, h.cap, h.capm, fun hn => ?_⟩
  obtain ⟨g, o, hA, hg, hc⟩ := h.cells hn
  have : g < w.heap.size := World.block_lt_of_cell? w _ (hc 0 hn)
  exact ⟨g, o, hA, by omega, hc⟩
theorem Txts.at {w : World} {p q : Nat} {L : Option Addr} {n : Nat} {xs : List (List B8)} (h : Txts w p L n xs) (hq : w.heap.size ≤ q) : Txts w q L n xs := by
  refine ⟨h.len, fun hn => ?_⟩
  obtain ⟨g, o, hL, hg, hc⟩ := h.cells hn
  obtain ⟨A, k, c, h0, ht⟩ := hc 0 (xs[0]'(by have := h.len; omega)) (List.getElem?_eq_getElem _)
  have : g < w.heap.size := World.block_lt_of_cell? w _ h0
  exact ⟨g, o, hL, by omega, fun i x hx => by
    obtain ⟨A, k, c, h0, ht⟩ := hc i x hx
    exact ⟨A, k, c, h0, ht.at hq⟩⟩

set_option maxHeartbeats 1000000 in
set_option maxRecDepth 100000 in
theorem of_any (ks : List B32) (w : World) (p : Nat) (L : Option Addr) (n c : Nat) (xs : List (List B8)) (hK : Roots ks w) (ht : Txts w p L n xs) (hn : n ≤ 9223372036854775807) (hm : xs.flatten.length ≤ 562949953421312) :
    Calls Tryd.prog 13 #[.slice L n c] w fun e w' => e = .returned (.agg (Vb (sha ks xs.flatten)).toArray) ∧ Below w.heap.size w w' := by
  have hpos := hK.pos
  have hz := zero44
  have hb : Below w.heap.size w ((w.alloc (.cells (List.replicate 32 (Value.int .u8 0)).toArray 31)).alloc (.cells zeroCells.toArray 44)) := ((Below.refl _ _).alloc (Nat.le_refl _) _).alloc (by simp) _
  have hr := (Blk.new w 31 (List.replicate 32 (.int .u8 0))).alloc (.cells zeroCells.toArray 44)
  have h1 : IsStr ks ((w.alloc (.cells (List.replicate 32 (Value.int .u8 0)).toArray 31)).alloc (.cells zeroCells.toArray 44)) (w.heap.size + 1) [] := zero_str ks (blk_two w 31 44 (List.replicate 32 (.int .u8 0)) zeroCells)
  have H := Lib.hid (And.intro hb (And.intro hr (And.intro h1 (And.intro (hK.below hb hpos) ((ht.at (q := w.heap.size + 1) (by omega)).below hb (Nat.le_refl _))))))
  clear hb hr h1 hK ht
  go_enter Tryd.func13, Tryd.ntmps13
  go_wp2_with fail
  refine (write_any ks _ (w.heap.size + 1) [] L n c xs (by omega) H.out.2.2.2.1 H.out.2.2.1 H.out.2.2.2.2 hn (by simpa using hm)).mono ?_
  rintro e w2 ⟨rfl, h2, o2⟩
  rw [List.nil_append] at h2
  have hB2 : Below w.heap.size w w2 := H.out.1.trans (o2.below (B := w.heap.size) (by simp; omega) (by simp))
  have hR2 := H.out.2.1.only o2 (by simp)
  have H2 := Lib.hid (And.intro hB2 (And.intro hR2 (And.intro h2 (H.out.2.2.2.1.only o2 (by simp)))))
  clear h2 o2 hB2 hR2
  go_wp2_with fail
  refine (sum_any ks w2 (some ⟨w.heap.size + 1, 0, none⟩) xs.flatten H2.out.2.2.2 (.inr ⟨_, rfl, H2.out.2.2.1⟩) hm).mono ?_
  rintro e w3 ⟨rfl, hb3⟩
  have hB3 : Below w.heap.size w w3 := H2.out.1.trans (hb3.mono H2.out.1.size)
  have hR3 := H2.out.2.1.below hb3 H2.out.2.1.lt
  have H3 := Lib.hid (And.intro hB3 hR3)
  clear hb3 hB3 hR3
  go_wp2_with (refine wpList_store_blk rfl 31 (.tmp 2) (.tmp 6) rfl w.heap.size 0 (Vb (sha ks xs.flatten)) rfl rfl H3.out.2 (by simp [Vb_length, sha_length]) (info31.trans (by simp [Vb_length, sha_length])) (Vb_oneCell _) ?_; intro w5 hA hO)
  rw [over_whole (by simp [Vb_length, sha_length])] at hA
  refine bodyPost_ret (v := .agg (Vb (sha ks xs.flatten)).toArray) ?_ rfl ⟨rfl, ?_⟩
  · exact ret_cell rfl rfl (run_loadVar_mid _ _ 0 31 _ _ hA.range Tryd.underlying31 rfl (info31.trans (by simp [Vb_length, sha_length])))
  · exact H3.out.1.trans (hO.below (B := w.heap.size) H3.out.1.size (by simp))

/-- Bytes as a string. -/
def strOf (l : List B8) : Value := .string ⟨(l.map UInt8.ofBitVec).toArray⟩

theorem agg_index (d : List B8) (hd : d.length = 32) (k : Nat) (hk : k < 32) (W : World) : (Instr.index 31 (.agg (Vb d).toArray) (.int .i64 k)).run Tryd.prog W = .ok (.int .u8 (nb (d.getD k 0))) W := by
  have hs : (sizeOf 5).run Tryd.prog W = .ok 1 W := by kernel_rfl
  obtain ⟨x, hx⟩ : ∃ x, d[k]? = some x := ⟨_, List.getElem?_eq_getElem (by omega)⟩
  have hv : (Vb d)[k]? = some (.int .u8 (nb x)) := by rw [Vb_get, hx]; rfl
  rw [List.getD_eq_getElem?_getD, hx]
  simp [Instr.index, asIntOf, run_underlying Tryd.underlying31, Go.part, hs, hv, hk]

theorem sign_index (i : Nat) (hi : i < 16) (W : World) : (Instr.index 9 (.string ⟨#[48, 49, 50, 51, 52, 53, 54, 55, 56, 57, 97, 98, 99, 100, 101, 102]⟩) (.int .u8 i)).run Tryd.prog W = .ok (.int .u8 (nb (sign i))) W := by
  match i, hi with
  | 0, _ =>
    have h : (Instr.index 9 (.string ⟨#[48, 49, 50, 51, 52, 53, 54, 55, 56, 57, 97, 98, 99, 100, 101, 102]⟩) (.int .u8 ((0 : Nat) : Int))).run Tryd.prog W = .ok (.int .u8 (nb (sign 0))) W := by kernel_rfl
    exact h
  | 1, _ =>
    have h : (Instr.index 9 (.string ⟨#[48, 49, 50, 51, 52, 53, 54, 55, 56, 57, 97, 98, 99, 100, 101, 102]⟩) (.int .u8 ((1 : Nat) : Int))).run Tryd.prog W = .ok (.int .u8 (nb (sign 1))) W := by kernel_rfl
    exact h
  | 2, _ =>
    have h : (Instr.index 9 (.string ⟨#[48, 49, 50, 51, 52, 53, 54, 55, 56, 57, 97, 98, 99, 100, 101, 102]⟩) (.int .u8 ((2 : Nat) : Int))).run Tryd.prog W = .ok (.int .u8 (nb (sign 2))) W := by kernel_rfl
    exact h
  | 3, _ =>
    have h : (Instr.index 9 (.string ⟨#[48, 49, 50, 51, 52, 53, 54, 55, 56, 57, 97, 98, 99, 100, 101, 102]⟩) (.int .u8 ((3 : Nat) : Int))).run Tryd.prog W = .ok (.int .u8 (nb (sign 3))) W := by kernel_rfl
    exact h
  | 4, _ =>
    have h : (Instr.index 9 (.string ⟨#[48, 49, 50, 51, 52, 53, 54, 55, 56, 57, 97, 98, 99, 100, 101, 102]⟩) (.int .u8 ((4 : Nat) : Int))).run Tryd.prog W = .ok (.int .u8 (nb (sign 4))) W := by kernel_rfl
    exact h
  | 5, _ =>
    have h : (Instr.index 9 (.string ⟨#[48, 49, 50, 51, 52, 53, 54, 55, 56, 57, 97, 98, 99, 100, 101, 102]⟩) (.int .u8 ((5 : Nat) : Int))).run Tryd.prog W = .ok (.int .u8 (nb (sign 5))) W := by kernel_rfl
    exact h
  | 6, _ =>
    have h : (Instr.index 9 (.string ⟨#[48, 49, 50, 51, 52, 53, 54, 55, 56, 57, 97, 98, 99, 100, 101, 102]⟩) (.int .u8 ((6 : Nat) : Int))).run Tryd.prog W = .ok (.int .u8 (nb (sign 6))) W := by kernel_rfl
    exact h
  | 7, _ =>
    have h : (Instr.index 9 (.string ⟨#[48, 49, 50, 51, 52, 53, 54, 55, 56, 57, 97, 98, 99, 100, 101, 102]⟩) (.int .u8 ((7 : Nat) : Int))).run Tryd.prog W = .ok (.int .u8 (nb (sign 7))) W := by kernel_rfl
    exact h
  | 8, _ =>
    have h : (Instr.index 9 (.string ⟨#[48, 49, 50, 51, 52, 53, 54, 55, 56, 57, 97, 98, 99, 100, 101, 102]⟩) (.int .u8 ((8 : Nat) : Int))).run Tryd.prog W = .ok (.int .u8 (nb (sign 8))) W := by kernel_rfl
    exact h
  | 9, _ =>
    have h : (Instr.index 9 (.string ⟨#[48, 49, 50, 51, 52, 53, 54, 55, 56, 57, 97, 98, 99, 100, 101, 102]⟩) (.int .u8 ((9 : Nat) : Int))).run Tryd.prog W = .ok (.int .u8 (nb (sign 9))) W := by kernel_rfl
    exact h
  | 10, _ =>
    have h : (Instr.index 9 (.string ⟨#[48, 49, 50, 51, 52, 53, 54, 55, 56, 57, 97, 98, 99, 100, 101, 102]⟩) (.int .u8 ((10 : Nat) : Int))).run Tryd.prog W = .ok (.int .u8 (nb (sign 10))) W := by kernel_rfl
    exact h
  | 11, _ =>
    have h : (Instr.index 9 (.string ⟨#[48, 49, 50, 51, 52, 53, 54, 55, 56, 57, 97, 98, 99, 100, 101, 102]⟩) (.int .u8 ((11 : Nat) : Int))).run Tryd.prog W = .ok (.int .u8 (nb (sign 11))) W := by kernel_rfl
    exact h
  | 12, _ =>
    have h : (Instr.index 9 (.string ⟨#[48, 49, 50, 51, 52, 53, 54, 55, 56, 57, 97, 98, 99, 100, 101, 102]⟩) (.int .u8 ((12 : Nat) : Int))).run Tryd.prog W = .ok (.int .u8 (nb (sign 12))) W := by kernel_rfl
    exact h
  | 13, _ =>
    have h : (Instr.index 9 (.string ⟨#[48, 49, 50, 51, 52, 53, 54, 55, 56, 57, 97, 98, 99, 100, 101, 102]⟩) (.int .u8 ((13 : Nat) : Int))).run Tryd.prog W = .ok (.int .u8 (nb (sign 13))) W := by kernel_rfl
    exact h
  | 14, _ =>
    have h : (Instr.index 9 (.string ⟨#[48, 49, 50, 51, 52, 53, 54, 55, 56, 57, 97, 98, 99, 100, 101, 102]⟩) (.int .u8 ((14 : Nat) : Int))).run Tryd.prog W = .ok (.int .u8 (nb (sign 14))) W := by kernel_rfl
    exact h
  | 15, _ =>
    have h : (Instr.index 9 (.string ⟨#[48, 49, 50, 51, 52, 53, 54, 55, 56, 57, 97, 98, 99, 100, 101, 102]⟩) (.int .u8 ((15 : Nat) : Int))).run Tryd.prog W = .ok (.int .u8 (nb (sign 15))) W := by kernel_rfl
    exact h
  | k + 16, h => exact absurd h (by omega)

theorem and15 (x : B8) : bits .and .u8 (nb x) 15 = ((x.toNat % 16 : Nat) : Int) := by
  have h : ∀ y : B8, bits .and .u8 (nb y) 15 = ((y.toNat % 16 : Nat) : Int) := by decide +kernel
  exact h x
theorem div16 (x : B8) : nb x / 16 = ((x.toNat / 16 : Nat) : Int) := by
  unfold nb
  omega

theorem sign_nat (i : Nat) (hi : i < 16) (h : i < (⟨#[48, 49, 50, 51, 52, 53, 54, 55, 56, 57, 97, 98, 99, 100, 101, 102]⟩ : ByteArray).size) : (((⟨#[48, 49, 50, 51, 52, 53, 54, 55, 56, 57, 97, 98, 99, 100, 101, 102]⟩ : ByteArray)[i]'h).toNat : Int) = nb (sign i) := by
  match i, hi, h with
  | 0, _, h =>
    have e : (((⟨#[48, 49, 50, 51, 52, 53, 54, 55, 56, 57, 97, 98, 99, 100, 101, 102]⟩ : ByteArray)[0]'h).toNat : Int) = nb (sign 0) := by kernel_rfl
    exact e
  | 1, _, h =>
    have e : (((⟨#[48, 49, 50, 51, 52, 53, 54, 55, 56, 57, 97, 98, 99, 100, 101, 102]⟩ : ByteArray)[1]'h).toNat : Int) = nb (sign 1) := by kernel_rfl
    exact e
  | 2, _, h =>
    have e : (((⟨#[48, 49, 50, 51, 52, 53, 54, 55, 56, 57, 97, 98, 99, 100, 101, 102]⟩ : ByteArray)[2]'h).toNat : Int) = nb (sign 2) := by kernel_rfl
    exact e
  | 3, _, h =>
    have e : (((⟨#[48, 49, 50, 51, 52, 53, 54, 55, 56, 57, 97, 98, 99, 100, 101, 102]⟩ : ByteArray)[3]'h).toNat : Int) = nb (sign 3) := by kernel_rfl
    exact e
  | 4, _, h =>
    have e : (((⟨#[48, 49, 50, 51, 52, 53, 54, 55, 56, 57, 97, 98, 99, 100, 101, 102]⟩ : ByteArray)[4]'h).toNat : Int) = nb (sign 4) := by kernel_rfl
    exact e
  | 5, _, h =>
    have e : (((⟨#[48, 49, 50, 51, 52, 53, 54, 55, 56, 57, 97, 98, 99, 100, 101, 102]⟩ : ByteArray)[5]'h).toNat : Int) = nb (sign 5) := by kernel_rfl
    exact e
  | 6, _, h =>
    have e : (((⟨#[48, 49, 50, 51, 52, 53, 54, 55, 56, 57, 97, 98, 99, 100, 101, 102]⟩ : ByteArray)[6]'h).toNat : Int) = nb (sign 6) := by kernel_rfl
    exact e
  | 7, _, h =>
    have e : (((⟨#[48, 49, 50, 51, 52, 53, 54, 55, 56, 57, 97, 98, 99, 100, 101, 102]⟩ : ByteArray)[7]'h).toNat : Int) = nb (sign 7) := by kernel_rfl
    exact e
  | 8, _, h =>
    have e : (((⟨#[48, 49, 50, 51, 52, 53, 54, 55, 56, 57, 97, 98, 99, 100, 101, 102]⟩ : ByteArray)[8]'h).toNat : Int) = nb (sign 8) := by kernel_rfl
    exact e
  | 9, _, h =>
    have e : (((⟨#[48, 49, 50, 51, 52, 53, 54, 55, 56, 57, 97, 98, 99, 100, 101, 102]⟩ : ByteArray)[9]'h).toNat : Int) = nb (sign 9) := by kernel_rfl
    exact e
  | 10, _, h =>
    have e : (((⟨#[48, 49, 50, 51, 52, 53, 54, 55, 56, 57, 97, 98, 99, 100, 101, 102]⟩ : ByteArray)[10]'h).toNat : Int) = nb (sign 10) := by kernel_rfl
    exact e
  | 11, _, h =>
    have e : (((⟨#[48, 49, 50, 51, 52, 53, 54, 55, 56, 57, 97, 98, 99, 100, 101, 102]⟩ : ByteArray)[11]'h).toNat : Int) = nb (sign 11) := by kernel_rfl
    exact e
  | 12, _, h =>
    have e : (((⟨#[48, 49, 50, 51, 52, 53, 54, 55, 56, 57, 97, 98, 99, 100, 101, 102]⟩ : ByteArray)[12]'h).toNat : Int) = nb (sign 12) := by kernel_rfl
    exact e
  | 13, _, h =>
    have e : (((⟨#[48, 49, 50, 51, 52, 53, 54, 55, 56, 57, 97, 98, 99, 100, 101, 102]⟩ : ByteArray)[13]'h).toNat : Int) = nb (sign 13) := by kernel_rfl
    exact e
  | 14, _, h =>
    have e : (((⟨#[48, 49, 50, 51, 52, 53, 54, 55, 56, 57, 97, 98, 99, 100, 101, 102]⟩ : ByteArray)[14]'h).toNat : Int) = nb (sign 14) := by kernel_rfl
    exact e
  | 15, _, h =>
    have e : (((⟨#[48, 49, 50, 51, 52, 53, 54, 55, 56, 57, 97, 98, 99, 100, 101, 102]⟩ : ByteArray)[15]'h).toNat : Int) = nb (sign 15) := by kernel_rfl
    exact e
  | i + 16, h, _ => exact absurd h (by omega)
theorem sign_at (x : Int) (i : Nat) (hx : x = (i : Int)) (hi : i < 16) (h : x.toNat < (⟨#[48, 49, 50, 51, 52, 53, 54, 55, 56, 57, 97, 98, 99, 100, 101, 102]⟩ : ByteArray).size) : (((⟨#[48, 49, 50, 51, 52, 53, 54, 55, 56, 57, 97, 98, 99, 100, 101, 102]⟩ : ByteArray)[x.toNat]'h).toNat : Int) = nb (sign i) := by
  subst hx
  exact sign_nat i hi h
/-- Bytes, and behind them the rest of N, still nought. -/
def partN (N : Nat) (l : List B8) : List Value := Vb l ++ List.replicate (N - l.length) (.int .u8 0)
theorem partN_length {N : Nat} {l : List B8} (h : l.length ≤ N) : (partN N l).length = N := by simp [partN, Vb_length]; omega
theorem partN_set {N : Nat} {l : List B8} (h : l.length < N) (x : B8) : (partN N l).set l.length (.int .u8 (nb x)) = partN N (l ++ [x]) := by
  unfold partN
  rw [List.set_append_right _ _ (by rw [Vb_length]; omega), Vb_length, Nat.sub_self, Vb_append]
  obtain ⟨m, hm⟩ : ∃ m, N - l.length = m + 1 := ⟨N - l.length - 1, by omega⟩
  rw [hm, List.replicate_succ, List.set_cons_zero, List.append_assoc]
  have : N - (l ++ [x]).length = m := by simp; omega
  rw [this]
  rfl
theorem partN_next {N : Nat} {l : List B8} {j : Nat} (h : l.length + j < N) : (partN N l)[l.length + j]? = some (.int .u8 0) := by
  unfold partN
  rw [List.getElem?_append_right (by rw [Vb_length]; omega), Vb_length, Nat.add_sub_cancel_left, List.getElem?_replicate]
  rw [if_pos (by omega)]
theorem partN_whole {N : Nat} (l : List B8) (h : l.length = N) : partN N l = Vb l := by simp [partN, h]

set_option maxHeartbeats 1000000 in
set_option maxRecDepth 100000 in
theorem hex_any (w : World) (d : List B8) (hd : d.length = 32) : Calls Tryd.prog 22 #[.agg (Vb d).toArray] w fun e w' => e = .returned (strOf (hexS d 32)) ∧ Below w.heap.size w w' := by
  go_enter Tryd.func22, Tryd.ntmps22
  go_wp2_with (first
    | (refine wpList_make_bytes rfl (.const (.int .i64 0)) (.const (.int .i64 64)) rfl 0 64 .i64 .i64 _ _ rfl rfl (by omega) (by omega) (by omega) (by omega) ?_)
    | (refine wpList_load_mid rfl 31 (.tmp 1) rfl w.heap.size 0 rfl _ _ ((Blk.new w 31 (Vb d)).alloc _).range Tryd.underlying31 rfl (info31.trans (by rw [Vb_length, hd])) ?_))
  go_loopw [8, 3] (fun i v wr => ∃ k : Nat, k ≤ 32 ∧ i = .int .i64 k ∧ v = .slice (some ⟨w.heap.size + 1, 0, none⟩) (2 * k) 64 ∧ Blk wr (w.heap.size + 1) 5 (partN 64 (hexS d k)) ∧ Below w.heap.size w wr) (fun i _ _ => 32 - (intOf i).toNat)
  case atStart =>
    refine ⟨0, by omega, rfl, rfl, ?_, ((Below.refl _ _).alloc (Nat.le_refl _) _).alloc (by simp) _⟩
    exact blk_two w 31 5 (Vb d) (List.replicate 64 (.int .u8 0))
  case round =>
    obtain ⟨k, hk, rfl, rfl, hblk, hbel⟩ := hrel
    have hl := hexS_length d k
    by_cases hlt : k < 32
    · have hix := agg_index d hd k hlt
      obtain ⟨b, hb⟩ : ∃ b, d.getD k 0 = b := ⟨_, rfl⟩
      rw [hb] at hix
      have hh : hexS d (k + 1) = hexS d k ++ [sign (b.toNat / 16), sign (b.toNat % 16)] := by rw [hexS, hb]
      have hdv := div16 b
      have han := and15 b
      have hs1 : ((b.toNat / 16 : Nat) : Int) < 16 := by have := b.isLt; omega
      have hs2 : ((b.toNat % 16 : Nat) : Int) < 16 := by omega
      have ht1 : (0 : Int) ≤ ((b.toNat / 16 : Nat) : Int) := by omega
      have ht2 : (0 : Int) ≤ ((b.toNat % 16 : Nat) : Int) := by omega
      obtain ⟨x1, hx1⟩ : ∃ x : Int, x = ((b.toNat / 16 : Nat) : Int) := ⟨_, rfl⟩
      obtain ⟨x2, hx2⟩ : ∃ x : Int, x = ((b.toNat % 16 : Nat) : Int) := ⟨_, rfl⟩
      rw [← hx1] at hdv hs1 ht1
      rw [← hx2] at han hs2 ht2
      have z0 := partN_next (N := 64) (l := hexS d k) (j := 0) (by omega)
      have z1 := partN_next (N := 64) (l := hexS d k) (j := 1) (by omega)
      rw [hl, ← hblk.cell] at z0 z1
      have f0 := hblk.frozen (2 * k)
      have f1 := hblk.frozen (2 * k + 1)
      have hnb := nb_bound b
      have h62 : 2 * k ≤ 62 := by omega
      have hsz : w.heap.size + 1 < wr.heap.size := hblk.lt
      have z0' : ∀ o : Obj, (wr.alloc o).cell? ⟨w.heap.size + 1, 2 * k, none⟩ = some (.int .u8 0) := fun o => ((hblk.alloc o).cell _).trans ((hblk.cell _).symm.trans z0)
      have z1' : ∀ o : Obj, (wr.alloc o).cell? ⟨w.heap.size + 1, 2 * k + 1, none⟩ = some (.int .u8 0) := fun o => ((hblk.alloc o).cell _).trans ((hblk.cell _).symm.trans z1)
      have f0' : ∀ o : Obj, (wr.alloc o).frozen? ⟨w.heap.size + 1, 2 * k, none⟩ = false := fun o => (hblk.alloc o).frozen _
      have f1' : ∀ o : Obj, (wr.alloc o).frozen? ⟨w.heap.size + 1, 2 * k + 1, none⟩ = false := fun o => (hblk.alloc o).frozen _
      have HO := Lib.hid (And.intro hh (And.intro hblk (And.intro hbel (And.intro hx1 hx2))))
      clear hh hblk hbel hb hx1 hx2 hl
      go_wp2_with fail
      go_region
      go_wp2
      go_roundw
      case rel =>
        obtain ⟨hh, hblk, hbel, hx1, hx2⟩ := HO.out
        refine ⟨k + 1, by omega, by go_num, by rw [Nat.mul_succ], ?_, ?_⟩
        · rw [sign_at x1 _ hx1 (by have := b.isLt; omega), sign_at x2 _ hx2 (by omega), hh]
          have hl := hexS_length d k
          have e0 := partN_set (N := 64) (l := hexS d k) (by omega) (sign (b.toNat / 16))
          have e1 := partN_set (N := 64) (l := hexS d k ++ [sign (b.toNat / 16)]) (by simp; omega) (sign (b.toNat % 16))
          rw [List.length_append, hl, List.length_singleton, List.append_assoc] at e1
          rw [hl] at e0
          have h1 := hblk.set_ (2 * k) (.int .u8 (nb (sign (b.toNat / 16))))
          rw [e0] at h1
          have h2 := h1.set_ (2 * k + 1) (.int .u8 (nb (sign (b.toNat % 16))))
          rw [e1] at h2
          exact (h2.alloc _).drew
        · exact (((hbel.setCell (p := ⟨w.heap.size + 1, _, none⟩) (by simp) _).setCell (p := ⟨w.heap.size + 1, _, none⟩) (by simp) _).alloc (by have := hbel.size; simp [World.setCell]; omega) _).drew
      case measure => simp [intOf]; omega
    · obtain rfl : k = 32 := by omega
      rw [partN_whole _ hl] at hblk
      have hcv := run_convert_bytes_back (P := Tryd.prog) wr 23 9 5 ⟨w.heap.size + 1, 0, none⟩ 64 ((hexS d 32).map UInt8.ofBitVec) Tryd.underlying23 Tryd.underlying5 Tryd.underlying9 (by
        intro j hj
        rw [Addr.add_mid, Nat.zero_add, hblk.cell, Vb_get]
        rw [List.length_map] at hj
        rw [List.getElem?_eq_getElem hj, List.getElem_map]
        unfold nb
        rfl)
      rw [List.length_map, hl] at hcv
      go_wp2
      go_ret
      exact ⟨rfl, hbel⟩

end Go.Proofs.YtkblpcegdfhmoaaDoor
