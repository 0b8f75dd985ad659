/-
  begin, bytes, Fork, Len, frame: the small methods. Conditions: the stream's block is known.
-/
import Derived.Test.YtkblpcegdfhmoaaDoorDTurn
import Derived.Deep.WholeRow
namespace Go.Proofs.YtkblpcegdfhmoaaDoor
open Go.RowKit

attribute [local go_sem] add_u32 xor_u32 and_u32 or_u32 not_u32 shl_u32 shr_u32 div_u32 div_8 div_3 div_16 div_10 div_24 mod_u8 low_u8

/-- The words at the beginning. -/
def start8 : S8 := ⟨0x6a09e667#32, 0xbb67ae85#32, 0x3c6ef372#32, 0xa54ff53a#32, 0x510e527f#32, 0x9b05688c#32, 0x1f83d9ab#32, 0x5be0cd19#32⟩
theorem start8_cells : [.int .u32 1779033703, .int .u32 3144134277, .int .u32 1013904242, .int .u32 2773480762, .int .u32 1359893119, .int .u32 2600822924, .int .u32 528734635, .int .u32 1541459225] = Wd start8.list := by
  simp only [Wd, S8.list, start8, List.map_cons, List.map_nil]
  unfold nw
  rfl

theorem begin_any (w : World) (p : Nat) (old : List B32) (hl : old.length = 8) (tl : List Value) (hb : Blk w p 44 (Wd old ++ tl)) :
    Calls Tryd.prog 34 #[.pointer (some ⟨p, 0, none⟩)] w fun e w' => e = .returned (.tuple #[]) ∧ Blk w' p 44 (Wd start8.list ++ tl) ∧ Only [p] w w' := by
  go_enter Tryd.func34, Tryd.ntmps34
  go_wp2_with (refine wpList_store_blk rfl 41 (.tmp 4) (.tmp 3) rfl p 0 [.int .u32 1779033703, .int .u32 3144134277, .int .u32 1013904242, .int .u32 2773480762, .int .u32 1359893119, .int .u32 2600822924, .int .u32 528734635, .int .u32 1541459225] rfl rfl hb (by simp [Wd_length, hl]) info41 (by rw [start8_cells]; exact Wd_oneCell _) ?_; intro w' h1 h2)
  go_end0
  refine ⟨rfl, ?_, h2⟩
  rw [start8_cells] at h1
  unfold over at h1
  rw [List.take_zero, List.nil_append, Wd_length, show 0 + start8.list.length = (Wd old).length by rw [Wd_length, hl]; rfl, List.drop_left] at h1
  exact h1

theorem len_nil (w : World) : Calls Tryd.prog 18 #[.pointer none] w fun e w' => e = .returned (.int .i64 0) ∧ w = w' := by
  go_enter Tryd.func18, Tryd.ntmps18
  go_wp2
  go_ret
  exact ⟨rfl, rfl⟩

theorem len_any (w : World) (p : Nat) (n : Int) (h : w.cell? ⟨p, 72, none⟩ = some (.int .i64 n)) : Calls Tryd.prog 18 #[.pointer (some ⟨p, 0, none⟩)] w fun e w' => e = .returned (.int .i64 n) ∧ w = w' := by
  go_enter Tryd.func18, Tryd.ntmps18
  go_wp2
  go_ret
  exact ⟨rfl, rfl⟩

/-- The zero stream's cells. -/
def zeroCells : List Value := List.replicate 8 (.int .u32 0) ++ List.replicate 64 (.int .u8 0) ++ [.int .i64 0]

theorem zero44 (w : World) : (zeroValue 44).run Tryd.prog w = .ok (.agg zeroCells.toArray) w :=
  (zero_of_info (P := Tryd.prog) (t := 44) (v := .agg zeroCells.toArray) (n := 73) (by kernel_rfl)).1 w

set_option maxRecDepth 100000 in
theorem fork_nil (w : World) : Calls Tryd.prog 17 #[.pointer none] w fun e w' => e = .returned (.pointer (some ⟨w.heap.size, 0, none⟩)) ∧ Blk w' w.heap.size 44 zeroCells ∧ Below w.heap.size w w' := by
  have hz := zero44
  go_enter Tryd.func17, Tryd.ntmps17
  go_wp2
  go_ret
  exact ⟨rfl, Blk.new w 44 zeroCells, (Below.refl _ _).alloc (Nat.le_refl _) _⟩

set_option maxRecDepth 100000 in
theorem fork_any (w : World) (p : Nat) (cs : List Value) (h1 : ∀ u ∈ cs, u.oneCell' = true) (hl : cs.length = 73) (hb : Blk w p 44 cs) : Calls Tryd.prog 17 #[.pointer (some ⟨p, 0, none⟩)] w fun e w' => ∃ q, e = .returned (.pointer (some ⟨q, 0, none⟩)) ∧ w.heap.size ≤ q ∧ Blk w' q 44 cs ∧ Below w.heap.size w w' := by
  go_enter Tryd.func17, Tryd.ntmps17
  have hz := zero44
  go_wp2_with (first
    | (refine wpList_load_mid rfl 44 (.tmp 9) rfl p 0 rfl _ _ hb.range Tryd.underlying44 rfl (info44.trans (by rw [hl])) ?_)
    | (refine wpList_store_blk rfl 44 (.tmp 3) (.tmp 10) rfl w.heap.size 0 cs rfl rfl (Blk.new w 44 zeroCells) (by rw [hl]; decide) (info44.trans (by rw [hl])) h1 ?_; intro W2 hA hO))
  go_ret
  refine ⟨_, rfl, Nat.le_refl _, ?_, ?_⟩
  · rw [over_whole (by rw [hl]; decide)] at hA
    exact hA
  · exact ((Below.refl _ _).alloc (Nat.le_refl _) _).trans (hO.below (by simp) (by simp))

/-- A word's bytes. -/
def b4 (x : B32) : List B8 := [(x >>> 24).setWidth 8, (x >>> 16).setWidth 8, (x >>> 8).setWidth 8, x.setWidth 8]
def outB (s : S8) : Nat → List B8
  | 0 => []
  | k + 1 => outB s k ++ b4 (s.list.getD k 0)
theorem outB_length (s : S8) : ∀ k, (outB s k).length = 4 * k
  | 0 => rfl
  | k + 1 => by simp [outB, outB_length s k, b4]; omega
/-- Bytes, and behind them the rest of an array of 32, still nought. -/
def partB (l : List B8) : List Value := Vb l ++ List.replicate (32 - l.length) (.int .u8 0)
theorem partB_length {l : List B8} (h : l.length ≤ 32) : (partB l).length = 32 := by simp [partB, Vb_length]; omega
theorem partB_set {l : List B8} (h : l.length < 32) (x : B8) : (partB l).set l.length (.int .u8 (nb x)) = partB (l ++ [x]) := by
  unfold partB
  rw [List.set_append_right _ _ (by rw [Vb_length]; omega), Vb_length, Nat.sub_self, Vb_append]
  obtain ⟨m, hm⟩ : ∃ m, 32 - l.length = m + 1 := ⟨32 - l.length - 1, by omega⟩
  rw [hm, List.replicate_succ, List.set_cons_zero, List.append_assoc]
  have : 32 - (l ++ [x]).length = m := by simp; omega
  rw [this]
  rfl
theorem partB_next {l : List B8} {j : Nat} (h : l.length + j < 32) : (partB l)[l.length + j]? = some (.int .u8 0) := by
  unfold partB
  rw [List.getElem?_append_right (by rw [Vb_length]; omega), Vb_length, Nat.add_sub_cancel_left, List.getElem?_replicate]
  rw [if_pos (by omega)]
theorem partB_oneCell (l : List B8) : ∀ u ∈ partB l, u.oneCell' = true := by
  intro u hu
  rcases List.mem_append.1 hu with h | h
  · exact Vb_oneCell l u h
  · rw [(List.mem_replicate.1 h).2]; rfl
theorem partB_whole (l : List B8) (h : l.length = 32) : partB l = Vb l := by simp [partB, h]
theorem word_cell {w : World} {p k : Nat} {s : S8} {tl : List Value} (h : Blk w p 44 (Wd s.list ++ tl)) (hk : k < 8) : w.cell? ⟨p, k, none⟩ = some (.int .u32 (nw (s.list.getD k 0))) := by
  have hl : s.list.length = 8 := rfl
  rw [h.cell, List.getElem?_append_left (by rw [Wd_length]; omega), Wd_get, List.getD_eq_getElem?_getD, List.getElem?_eq_getElem (by omega)]
  rfl
theorem out_step {s : S8} {k : Nat} (hk : k < 8) (x : B32) (hx : s.list.getD k 0 = x) :
    ((((partB (outB s k)).set (4 * k) (.int .u8 (nb ((x >>> 24).setWidth 8)))).set (4 * k + 1) (.int .u8 (nb ((x >>> 16).setWidth 8)))).set (4 * k + 2) (.int .u8 (nb ((x >>> 8).setWidth 8)))).set (4 * k + 3) (.int .u8 (nb (x.setWidth 8))) = partB (outB s (k + 1)) := by
  have hl := outB_length s k
  have e0 := partB_set (l := outB s k) (by omega) ((x >>> 24).setWidth 8)
  have e1 := partB_set (l := outB s k ++ [(x >>> 24).setWidth 8]) (by simp; omega) ((x >>> 16).setWidth 8)
  have e2 := partB_set (l := outB s k ++ [(x >>> 24).setWidth 8] ++ [(x >>> 16).setWidth 8]) (by simp; omega) ((x >>> 8).setWidth 8)
  have e3 := partB_set (l := outB s k ++ [(x >>> 24).setWidth 8] ++ [(x >>> 16).setWidth 8] ++ [(x >>> 8).setWidth 8]) (by simp; omega) (x.setWidth 8)
  simp only [List.length_append, List.length_cons, List.length_nil, hl, Nat.zero_add, Nat.add_assoc, Nat.reduceAdd] at e0 e1 e2 e3
  rw [e0, e1, e2, e3, outB, hx]
  simp [b4]

set_option maxHeartbeats 1000000 in
set_option maxRecDepth 100000 in
theorem bytes_any (w : World) (p : Nat) (s : S8) (tl : List Value) (hb : Blk w p 44 (Wd s.list ++ tl)) :
    Calls Tryd.prog 29 #[.pointer (some ⟨p, 0, none⟩)] w fun e w' => e = .returned (.agg (Vb (outB s 8)).toArray) ∧ Below w.heap.size w w' := by
  have hp := hb.lt
  have HB := Lib.hid hb
  clear hb
  go_enter Tryd.func29, Tryd.ntmps29
  go_wp2_with fail
  go_loopw [7] (fun i wr => ∃ k : Nat, k ≤ 8 ∧ i = .int .i64 k ∧ Blk wr (w.heap.size + 1) 31 (partB (outB s k)) ∧ Blk wr w.heap.size 31 (List.replicate 32 (.int .u8 0)) ∧ Below w.heap.size w wr) (fun i _ => 8 - (intOf i).toNat)
  case atStart => exact ⟨0, by omega, rfl, blk_two w 31 31 (List.replicate 32 (.int .u8 0)) (List.replicate 32 (.int .u8 0)), (Blk.new w 31 (List.replicate 32 (.int .u8 0))).alloc _, ((Below.refl _ _).alloc (Nat.le_refl _) _).alloc (by simp) _⟩
  case round =>
    obtain ⟨k, hk, rfl, hb1, hb0, hnx⟩ := hrel
    have hpl : (partB (outB s k)).length = 32 := partB_length (by rw [outB_length]; omega)
    by_cases hk8 : k < 8
    · have hw : wr.cell? ⟨p, k, none⟩ = some (.int .u32 (nw (s.list.getD k 0))) := (hnx.cell hp).trans (word_cell HB.out hk8)
      have hl := outB_length s k
      obtain ⟨x, hx⟩ : ∃ x, s.list.getD k 0 = x := ⟨_, rfl⟩
      have hst := out_step hk8 x hx
      rw [hx] at hw
      have HST := Lib.hid hst
      have HB1 := Lib.hid hb1
      have HB0 := Lib.hid hb0
      have HX := Lib.hid hnx
      have n0 := nw_bound x
      clear hb1 hb0 hnx hst hl hx
      go_wp2_with fail
      go_region
      go_wp2_with (first
        | (refine wpList_store_one rfl 5 (.tmp 35) (.tmp 26) rfl (w.heap.size + 1) (4 * k) .u8 _ rfl rfl (HB1.out.drew) (by rw [hpl]; omega) info5 ?_; intro w1 h1 o1)
        | (refine wpList_store_one rfl 5 (.tmp 36) (.tmp 29) rfl (w.heap.size + 1) (4 * k + 1) .u8 _ rfl rfl h1 (by rw [List.length_set, hpl]; omega) info5 ?_; intro w2 h2 o2)
        | (refine wpList_store_one rfl 5 (.tmp 37) (.tmp 32) rfl (w.heap.size + 1) (4 * k + 2) .u8 _ rfl rfl h2 (by rw [List.length_set, List.length_set, hpl]; omega) info5 ?_; intro w3 h3 o3)
        | (refine wpList_store_one rfl 5 (.tmp 38) (.tmp 34) rfl (w.heap.size + 1) (4 * k + 3) .u8 _ rfl rfl h3 (by rw [List.length_set, List.length_set, List.length_set, hpl]; omega) info5 ?_; intro w4 h4 o4))
      go_roundw
      case rel =>
        have o := (o1.trans (S := [w.heap.size + 1]) o2).trans (o3.trans o4)
        refine ⟨k + 1, by omega, by go_num, ?_, ?_, ?_⟩
        · rw [← HST.out]; exact h4
        · exact HB0.out.drew.only o (by simp)
        · exact HX.out.drew.trans (o.below (B := w.heap.size) (by have := HX.out.size; exact this) (by simp))
      case measure => simp [intOf]; omega
    · obtain rfl : k = 8 := by omega
      go_wp2_with (first
        | (refine wpList_load_mid rfl 31 (.tmp 3) rfl (w.heap.size + 1) 0 rfl _ _ hb1.range Tryd.underlying31 rfl (info31.trans (by rw [hpl])) ?_)
        | (refine wpList_store_blk rfl 31 (.tmp 2) (.tmp 40) rfl w.heap.size 0 _ rfl rfl hb0 (by simp [hpl]) (info31.trans (by rw [hpl])) (partB_oneCell _) ?_; intro W2 hA hO))
      rw [over_whole (by simp [hpl]), partB_whole _ (outB_length s 8)] at hA
      refine bodyPost_ret (v := .agg (Vb (outB s 8)).toArray) ?_ rfl ⟨rfl, ?_⟩
      · exact ret_cell rfl rfl (run_loadVar_mid _ _ 0 31 _ _ hA.range Tryd.underlying31 rfl (info31.trans (by simp [Vb_length, outB_length])))
      · exact hnx.trans (hO.below (B := w.heap.size) hnx.size (by simp))

theorem frame_any (w : World) (x : Int) (hx : 0 ≤ x ∧ x < 4294967296) : Calls Tryd.prog 26 #[.int .i64 x] w fun e w' => e = .returned (.agg #[.int .u8 (x / 16777216), .int .u8 (x / 65536 % 256), .int .u8 (x / 256 % 256), .int .u8 (x % 256)]) ∧ Below w.heap.size w w' := by
  go_enter Tryd.func26, Tryd.ntmps26
  go_wp2
  refine bodyPost_ret (ret_cell rfl rfl (v := .agg #[.int .u8 (x / 16777216), .int .u8 (x / 65536 % 256), .int .u8 (x / 256 % 256), .int .u8 (x % 256)]) ?_) rfl ⟨rfl, (Below.refl _ _).alloc (Nat.le_refl _) _⟩
  exact run_loadVar_mid _ _ 0 62 [.int .u8 (x / 16777216), .int .u8 (x / 65536 % 256), .int .u8 (x / 256 % 256), .int .u8 (x % 256)] _ (Blk.new w 62 [.int .u8 (x / 16777216), .int .u8 (x / 65536 % 256), .int .u8 (x / 256 % 256), .int .u8 (x % 256)]).range Tryd.underlying62 rfl (by kernel_rfl)

end Go.Proofs.YtkblpcegdfhmoaaDoor
