/-
  begin, bytes, Fork, Len, frame: the small methods. Conditions: the stream's block is known.
-/
import Derived.Test.YtlpljedacohngaaGreatDoorM4
import Derived.Deep.WholeRow
import Derived.WalkSmall
import Derived.Laws.CopyOwn
import Derived.StillTailTactics
import Derived.Deep.DeepCutAuto
import Derived.Deep.CutBlock
section
set_option maxRecDepth 100000
set_option linter.unusedSimpArgs false
set_option linter.unusedVariables false
namespace Go.Proofs.YtlpljedacohngaaGreatDoor
open Go.RowKit

attribute [local go_sem] add_u32 xor_u32 and_u32 or_u32 not_u32 shl_u32 shr_u32 div_u32 div_8 div_3 div_16 div_10 div_24 mod_u8 low_u8

/-- The words at the beginning. -/
def start8 : S8 := ⟨0x6a09e667#32, 0xbb67ae85#32, 0x3c6ef372#32, 0xa54ff53a#32, 0x510e527f#32, 0x9b05688c#32, 0x1f83d9ab#32, 0x5be0cd19#32⟩
theorem start8_cells : [.int .u32 1779033703, .int .u32 3144134277, .int .u32 1013904242, .int .u32 2773480762, .int .u32 1359893119, .int .u32 2600822924, .int .u32 528734635, .int .u32 1541459225] = Wd start8.list := by
  simp only [Wd, S8.list, start8, List.map_cons, List.map_nil]
  unfold nw
  rfl

theorem begin_any (w : World) (p : Nat) (old : List B32) (hl : old.length = 8) (tl : List Value) (hb : Blk w p 120 (Wd old ++ tl)) :
    Calls Tryz.prog 78 #[.pointer (some ⟨p, 0, none⟩)] w fun e w' => e = .returned (.tuple #[]) ∧ Blk w' p 120 (Wd start8.list ++ tl) ∧ Only [p] w w' := by
  go_enter Tryz.func78, Tryz.ntmps78
  go_wp2_with (refine wpList_store_blk rfl 117 (.tmp 4) (.tmp 3) rfl p 0 [.int .u32 1779033703, .int .u32 3144134277, .int .u32 1013904242, .int .u32 2773480762, .int .u32 1359893119, .int .u32 2600822924, .int .u32 528734635, .int .u32 1541459225] rfl rfl hb (by simp [Wd_length, hl]) info41 (by rw [start8_cells]; exact Wd_oneCell _) ?_; intro w' h1 h2)
  go_end0
  refine ⟨rfl, ?_, h2⟩
  rw [start8_cells] at h1
  unfold over at h1
  rw [List.take_zero, List.nil_append, Wd_length, show 0 + start8.list.length = (Wd old).length by rw [Wd_length, hl]; rfl, List.drop_left] at h1
  exact h1

/-- The zero stream's cells. -/
def zeroCells : List Value := List.replicate 8 (.int .u32 0) ++ List.replicate 64 (.int .u8 0) ++ [.int .i64 0]

theorem zero44 (w : World) : (zeroValue 120).run Tryz.prog w = .ok (.agg zeroCells.toArray) w :=
  (zero_of_info (P := Tryz.prog) (t := 120) (v := .agg zeroCells.toArray) (n := 73) (by kernel_rfl)).1 w

set_option maxRecDepth 100000 in
theorem fork_nil (w : World) : Calls Tryz.prog 80 #[.pointer none] w fun e w' => e = .returned (.pointer (some ⟨w.heap.size, 0, none⟩)) ∧ Blk w' w.heap.size 120 zeroCells ∧ Below w.heap.size w w' := by
  have hz := zero44
  go_enter Tryz.func80, Tryz.ntmps80
  go_wp2
  go_ret
  exact ⟨rfl, Blk.new w 120 zeroCells, (Below.refl _ _).alloc (Nat.le_refl _) _⟩

set_option maxRecDepth 100000 in
theorem fork_any (w : World) (p : Nat) (cs : List Value) (h1 : ∀ u ∈ cs, u.oneCell' = true) (hl : cs.length = 73) (hb : Blk w p 120 cs) : Calls Tryz.prog 80 #[.pointer (some ⟨p, 0, none⟩)] w fun e w' => ∃ q, e = .returned (.pointer (some ⟨q, 0, none⟩)) ∧ w.heap.size ≤ q ∧ Blk w' q 120 cs ∧ Below w.heap.size w w' := by
  go_enter Tryz.func80, Tryz.ntmps80
  have hz := zero44
  go_wp2_with (first
    | (refine wpList_load_mid rfl 120 (.tmp 9) rfl p 0 rfl _ _ hb.range Tryz.underlying120 rfl (info44.trans (by rw [hl])) ?_)
    | (refine wpList_store_blk rfl 120 (.tmp 3) (.tmp 10) rfl w.heap.size 0 cs rfl rfl (Blk.new w 120 zeroCells) (by rw [hl]; decide) (info44.trans (by rw [hl])) h1 ?_; intro W2 hA hO))
  go_ret
  refine ⟨_, rfl, Nat.le_refl _, ?_, ?_⟩
  · rw [over_whole (by rw [hl]; decide)] at hA
    exact hA
  · exact ((Below.refl _ _).alloc (Nat.le_refl _) _).trans (hO.below (by simp) (by simp))

/-- A word's bytes. -/
def b4 (x : B32) : List B8 := [(x >>> 24).setWidth 8, (x >>> 16).setWidth 8, (x >>> 8).setWidth 8, x.setWidth 8]
def outB (s : S8) : Nat → List B8
  | 0 => []
  | k + 1 => outB s k ++ b4 (s.list.getD k 0)
theorem outB_length (s : S8) : ∀ k, (outB s k).length = 4 * k
  | 0 => rfl
  | k + 1 => by simp [outB, outB_length s k, b4]; omega
/-- Bytes, and behind them the rest of an array of 32, still nought. -/
def partB (l : List B8) : List Value := Vb l ++ List.replicate (32 - l.length) (.int .u8 0)
theorem partB_length {l : List B8} (h : l.length ≤ 32) : (partB l).length = 32 := by simp [partB, Vb_length]; omega
theorem partB_set {l : List B8} (h : l.length < 32) (x : B8) : (partB l).set l.length (.int .u8 (nb x)) = partB (l ++ [x]) := by
  unfold partB
  rw [List.set_append_right _ _ (by rw [Vb_length]; omega), Vb_length, Nat.sub_self, Vb_append]
  obtain ⟨m, hm⟩ : ∃ m, 32 - l.length = m + 1 := ⟨32 - l.length - 1, by omega⟩
  rw [hm, List.replicate_succ, List.set_cons_zero, List.append_assoc]
  have : 32 - (l ++ [x]).length = m := by simp; omega
  rw [this]
  rfl
theorem partB_next {l : List B8} {j : Nat} (h : l.length + j < 32) : (partB l)[l.length + j]? = some (.int .u8 0) := by
  unfold partB
  rw [List.getElem?_append_right (by rw [Vb_length]; omega), Vb_length, Nat.add_sub_cancel_left, List.getElem?_replicate]
  rw [if_pos (by omega)]
theorem partB_oneCell (l : List B8) : ∀ u ∈ partB l, u.oneCell' = true := by
  intro u hu
  rcases List.mem_append.1 hu with h | h
  · exact Vb_oneCell l u h
  · rw [(List.mem_replicate.1 h).2]; rfl
theorem partB_whole (l : List B8) (h : l.length = 32) : partB l = Vb l := by simp [partB, h]
theorem word_cell {w : World} {p k : Nat} {s : S8} {tl : List Value} (h : Blk w p 120 (Wd s.list ++ tl)) (hk : k < 8) : w.cell? ⟨p, k, none⟩ = some (.int .u32 (nw (s.list.getD k 0))) := by
  have hl : s.list.length = 8 := rfl
  rw [h.cell, List.getElem?_append_left (by rw [Wd_length]; omega), Wd_get, List.getD_eq_getElem?_getD, List.getElem?_eq_getElem (by omega)]
  rfl
theorem out_step {s : S8} {k : Nat} (hk : k < 8) (x : B32) (hx : s.list.getD k 0 = x) :
    ((((partB (outB s k)).set (4 * k) (.int .u8 (nb ((x >>> 24).setWidth 8)))).set (4 * k + 1) (.int .u8 (nb ((x >>> 16).setWidth 8)))).set (4 * k + 2) (.int .u8 (nb ((x >>> 8).setWidth 8)))).set (4 * k + 3) (.int .u8 (nb (x.setWidth 8))) = partB (outB s (k + 1)) := by
  have hl := outB_length s k
  have e0 := partB_set (l := outB s k) (by omega) ((x >>> 24).setWidth 8)
  have e1 := partB_set (l := outB s k ++ [(x >>> 24).setWidth 8]) (by simp; omega) ((x >>> 16).setWidth 8)
  have e2 := partB_set (l := outB s k ++ [(x >>> 24).setWidth 8] ++ [(x >>> 16).setWidth 8]) (by simp; omega) ((x >>> 8).setWidth 8)
  have e3 := partB_set (l := outB s k ++ [(x >>> 24).setWidth 8] ++ [(x >>> 16).setWidth 8] ++ [(x >>> 8).setWidth 8]) (by simp; omega) (x.setWidth 8)
  simp only [List.length_append, List.length_cons, List.length_nil, hl, Nat.zero_add, Nat.add_assoc, Nat.reduceAdd] at e0 e1 e2 e3
  rw [e0, e1, e2, e3, outB, hx]
  simp [b4]

set_option maxHeartbeats 1000000 in
set_option maxRecDepth 100000 in
theorem bytes_any (w : World) (p : Nat) (s : S8) (tl : List Value) (hb : Blk w p 120 (Wd s.list ++ tl)) :
    Calls Tryz.prog 82 #[.pointer (some ⟨p, 0, none⟩)] w fun e w' => e = .returned (.agg (Vb (outB s 8)).toArray) ∧ Below w.heap.size w w' := by
  have hp := hb.lt
  have HB := Lib.hid hb
  clear hb
  go_enter Tryz.func82, Tryz.ntmps82
  go_wp2_with fail
  go_loopw [7] (fun i wr => ∃ k : Nat, k ≤ 8 ∧ i = .int .i64 k ∧ Blk wr (w.heap.size + 1) 74 (partB (outB s k)) ∧ Blk wr w.heap.size 74 (List.replicate 32 (.int .u8 0)) ∧ Below w.heap.size w wr) (fun i _ => 8 - (intOf i).toNat)
  case atStart => exact ⟨0, by omega, rfl, blk_two w 74 74 (List.replicate 32 (.int .u8 0)) (List.replicate 32 (.int .u8 0)), (Blk.new w 74 (List.replicate 32 (.int .u8 0))).alloc _, ((Below.refl _ _).alloc (Nat.le_refl _) _).alloc (by simp) _⟩
  case round =>
    obtain ⟨k, hk, rfl, hb1, hb0, hnx⟩ := hrel
    have hpl : (partB (outB s k)).length = 32 := partB_length (by rw [outB_length]; omega)
    by_cases hk8 : k < 8
    · have hw : wr.cell? ⟨p, k, none⟩ = some (.int .u32 (nw (s.list.getD k 0))) := (hnx.cell hp).trans (word_cell HB.out hk8)
      have hl := outB_length s k
      obtain ⟨x, hx⟩ : ∃ x, s.list.getD k 0 = x := ⟨_, rfl⟩
      have hst := out_step hk8 x hx
      rw [hx] at hw
      have HST := Lib.hid hst
      have HB1 := Lib.hid hb1
      have HB0 := Lib.hid hb0
      have HX := Lib.hid hnx
      have n0 := nw_bound x
      clear hb1 hb0 hnx hst hl hx
      go_wp2_with fail
      go_region
      go_wp2_with (first
        | (refine wpList_store_one rfl 5 (.tmp 35) (.tmp 26) rfl (w.heap.size + 1) (4 * k) .u8 _ rfl rfl (HB1.out.drew) (by rw [hpl]; omega) info5 ?_; intro w1 h1 o1)
        | (refine wpList_store_one rfl 5 (.tmp 36) (.tmp 29) rfl (w.heap.size + 1) (4 * k + 1) .u8 _ rfl rfl h1 (by rw [List.length_set, hpl]; omega) info5 ?_; intro w2 h2 o2)
        | (refine wpList_store_one rfl 5 (.tmp 37) (.tmp 32) rfl (w.heap.size + 1) (4 * k + 2) .u8 _ rfl rfl h2 (by rw [List.length_set, List.length_set, hpl]; omega) info5 ?_; intro w3 h3 o3)
        | (refine wpList_store_one rfl 5 (.tmp 38) (.tmp 34) rfl (w.heap.size + 1) (4 * k + 3) .u8 _ rfl rfl h3 (by rw [List.length_set, List.length_set, List.length_set, hpl]; omega) info5 ?_; intro w4 h4 o4))
      go_roundw
      case rel =>
        have o := (o1.trans (S := [w.heap.size + 1]) o2).trans (o3.trans o4)
        refine ⟨k + 1, by omega, by go_num, ?_, ?_, ?_⟩
        · rw [← HST.out]; exact h4
        · exact HB0.out.drew.only o (by simp)
        · exact HX.out.drew.trans (o.below (B := w.heap.size) (by have := HX.out.size; exact this) (by simp))
      case measure => simp [intOf]; omega
    · obtain rfl : k = 8 := by omega
      go_wp2_with (first
        | (refine wpList_load_mid rfl 74 (.tmp 3) rfl (w.heap.size + 1) 0 rfl _ _ hb1.range Tryz.underlying74 rfl (info31.trans (by rw [hpl])) ?_)
        | (refine wpList_store_blk rfl 74 (.tmp 2) (.tmp 40) rfl w.heap.size 0 _ rfl rfl hb0 (by simp [hpl]) (info31.trans (by rw [hpl])) (partB_oneCell _) ?_; intro W2 hA hO))
      rw [over_whole (by simp [hpl]), partB_whole _ (outB_length s 8)] at hA
      refine bodyPost_ret (v := .agg (Vb (outB s 8)).toArray) ?_ rfl ⟨rfl, ?_⟩
      · exact ret_cell rfl rfl (run_loadVar_mid _ _ 0 74 _ _ hA.range Tryz.underlying74 rfl (info31.trans (by simp [Vb_length, outB_length])))
      · exact hnx.trans (hO.below (B := w.heap.size) hnx.size (by simp))

theorem frame_any (w : World) (x : Int) (hx : 0 ≤ x ∧ x < 4294967296) : Calls Tryz.prog 65 #[.int .i64 x] w fun e w' => e = .returned (.agg #[.int .u8 (x / 16777216), .int .u8 (x / 65536 % 256), .int .u8 (x / 256 % 256), .int .u8 (x % 256)]) ∧ Below w.heap.size w w' := by
  go_enter Tryz.func65, Tryz.ntmps65
  go_wp2
  refine bodyPost_ret (ret_cell rfl rfl (v := .agg #[.int .u8 (x / 16777216), .int .u8 (x / 65536 % 256), .int .u8 (x / 256 % 256), .int .u8 (x % 256)]) ?_) rfl ⟨rfl, (Below.refl _ _).alloc (Nat.le_refl _) _⟩
  exact run_loadVar_mid _ _ 0 121 [.int .u8 (x / 16777216), .int .u8 (x / 65536 % 256), .int .u8 (x / 256 % 256), .int .u8 (x % 256)] _ (Blk.new w 121 [.int .u8 (x / 16777216), .int .u8 (x / 65536 % 256), .int .u8 (x / 256 % 256), .int .u8 (x % 256)]).range Tryz.underlying121 rfl (by kernel_rfl)

end Go.Proofs.YtlpljedacohngaaGreatDoor
end

/-
  ending: what comes behind so many bytes. Condition: at most 2^50 bytes.
-/

section
set_option maxRecDepth 100000
set_option linter.unusedSimpArgs false
set_option linter.unusedVariables false
namespace Go.Proofs.YtlpljedacohngaaGreatDoor
open Go.RowKit

/-- How many bytes 0 come behind n bytes and a byte 128. -/
def gap (n : Nat) : Nat := (119 - n % 64) % 64
/-- The first i bytes of the count of bits. -/
def count8 (n : Nat) : Nat → List B8
  | 0 => []
  | i + 1 => count8 n i ++ [BitVec.ofNat 8 (n * 8 / 2 ^ (56 - 8 * i))]
theorem count8_length (n : Nat) : ∀ i, (count8 n i).length = i
  | 0 => rfl
  | i + 1 => by simp [count8, count8_length n i]
def pad (n : Nat) : List B8 := 128#8 :: List.replicate (gap n) 0#8
def endB (n : Nat) : List B8 := pad n ++ count8 n 8
theorem pad_length (n : Nat) : (pad n).length = 1 + gap n := by simp [pad]; omega
theorem gap_lt (n : Nat) : gap n < 64 := Nat.mod_lt _ (by omega)
theorem endB_length (n : Nat) : (endB n).length = 9 + gap n := by simp [endB, pad_length, count8_length]; omega

theorem wpList_make_bytes {w : World} {ops : Array Oper} {rest : List Oper} {o : Oper} {a : Act} {Q : Exit → Act → World → Prop}
    (hg : o.guard = none) (x y : Operand) (hop : o.op = Op.makeSlice 22 x y) (l c : Nat) (kx ky : IntKind) (X Y : Int) (hx : a.eval x = .int kx X) (hy : a.eval y = .int ky Y) (hX : X = l) (hY : Y = c) (hlc : l ≤ c) (hc : c ≤ 281474976710656)
    (hK : wpList Tryz.prog ops Q rest (a.put o.dst (.slice (some ⟨w.heap.size, 0, none⟩) l c)) (w.alloc (.cells (List.replicate c (.int .u8 0)).toArray 5))) :
    wpList Tryz.prog ops Q (o :: rest) a w := by
  subst hX hY
  obtain ⟨i0, hi, hz0, hz1, hz2⟩ := info_parts (show (Tryz.prog.info? 5).map (fun i => (i.zero, i.size, i.bytes)) = some (some (.int .u8 0), 1, 1) by kernel_rfl)
  have hr := run_make (P := Tryz.prog) w 22 5 i0 (.int .u8 0) Tryz.underlying22 hi hz0 kx ky l c (by omega) (by omega) (by rw [hz2]; omega) (by omega)
  have hm : madeCells (Value.int .u8 0).cells ((c : Int).toNat * i0.size) = (List.replicate c (.int .u8 0)).toArray := by
    rw [hz1]
    simp only [madeCells, Value.cells, Int.toNat_natCast, Nat.mul_one]
    apply Array.ext
    · simp
    · intro j h1 h2
      simp [Nat.mod_one]
  rw [hm] at hr
  simp only [Int.toNat_natCast] at hr
  refine wpList_plain hg fun K hK' => ?_
  unfold Oper.wp execOp
  simp only [hop, hx, hy, Sem.run_bind, hr, Result.andThen_ok, Sem.run_pure]
  exact hK' _ _ hK

theorem new_one (w : World) (v : Value) (t : TypeId) : ∀ j u, [v][j]? = some u → (w.alloc (.cells #[v] t)).cell? ((⟨w.heap.size, 0, none⟩ : Addr).add j) = some u := by
  intro j u hj
  match j, hj with
  | 0, hj => simp at hj; subst hj; simp [Addr.add]
  | j + 1, hj => simp at hj
theorem one_one (k : IntKind) (n : Int) : ∀ u ∈ [Value.int k n], u.oneCell' = true := by
  intro u hu
  simp at hu
  subst hu
  rfl
theorem count_val (n i : Nat) : (n : Int) * 8 / 2 ^ (56 - 8 * i) % 256 = nb (BitVec.ofNat 8 (n * 8 / 2 ^ (56 - 8 * i))) := by
  unfold nb
  rw [BitVec.toNat_ofNat, Int.natCast_emod, Int.natCast_ediv, Int.natCast_mul, Int.natCast_pow]
  rfl

theorem owned_of_blk {w : World} {g : Nat} {t : TypeId} {cs : List Value} {B k : Nat} (h : Blk w g t cs) (hB : B ≤ g) (hk : k ≤ cs.length) (hm : cs.length ≤ maxLen) : w.ownsRow B t 1 (.slice (some ⟨g, 0, none⟩) k cs.length) k (cs.take k) :=
  ⟨by simp; omega, .inr ⟨g, cs.length, cs.toArray, rfl, hB, h, hk, hm, by simp, by simp⟩⟩

set_option maxHeartbeats 1000000 in
set_option maxRecDepth 100000 in
theorem ending_any (w : World) (n : Nat) (hn : n ≤ 1125899906842624) : Calls Tryz.prog 81 #[.int .i64 n] w fun e w' => ∃ g c, e = .returned (.slice (some ⟨g, 0, none⟩) (endB n).length c) ∧ w'.ownsRow w.heap.size 5 1 (.slice (some ⟨g, 0, none⟩) (endB n).length c) (endB n).length (Vb (endB n)) ∧ Below w.heap.size w w' := by
  obtain ⟨i0, hi, hz0, hz1, hz2⟩ := info_parts (show (Tryz.prog.info? 5).map (fun i => (i.zero, i.size, i.bytes)) = some (some (.int .u8 0), 1, 1) by kernel_rfl)
  have hgl := gap_lt n
  have hge : (119 - (n : Int) % 64) % 64 = (gap n : Int) := by unfold gap; omega
  go_enter Tryz.func81, Tryz.ntmps81
  go_wp2_with (first
    | (refine wpList_make_bytes rfl (.tmp 12) (.tmp 15) rfl (1 + gap n) (9 + gap n) .i64 .i64 _ _ rfl rfl (by omega) (by omega) (by omega) (by omega) ?_)
    | (refine wpList_store_one rfl 5 (.tmp 18) (.const (.int .u8 128)) rfl w.heap.size 0 .u8 128 rfl rfl (Blk.new w 5 (List.replicate (9 + gap n) (.int .u8 0))) (by rw [List.length_replicate]; omega) info5 ?_; intro w1 h1 o1))
  have hown : w1.ownsRow w.heap.size 5 1 (.slice (some ⟨w.heap.size, 0, none⟩) (1 + gap n) (9 + gap n)) (1 + gap n) (Vb (pad n)) := by
    have hlen : ((List.replicate (9 + gap n) (Value.int .u8 0)).set 0 (.int .u8 128)).length = 9 + gap n := by rw [List.length_set, List.length_replicate]
    have h := owned_of_blk (B := w.heap.size) (k := 1 + gap n) h1 (Nat.le_refl _) (by rw [hlen]; omega) (by rw [hlen]; unfold maxLen; omega)
    have e : ((List.replicate (9 + gap n) (Value.int .u8 0)).set 0 (.int .u8 128)).take (1 + gap n) = Vb (pad n) := by
      have e1 : 9 + gap n = (8 + gap n) + 1 := by omega
      rw [e1, List.replicate_succ, List.set_cons_zero, show 1 + gap n = gap n + 1 by omega, List.take_succ_cons, List.take_replicate, Nat.min_eq_left (by omega)]
      simp only [pad, Vb, List.map_cons, List.map_replicate]
      unfold nb
      rfl
    rw [e, hlen] at h
    exact h
  have hbel : Below w.heap.size w w1 := ((Below.refl _ _).alloc (Nat.le_refl _) _).trans (o1.below (B := w.heap.size) (by simp) (by simp))
  clear h1 o1
  go_loopw [6, 4] (fun sh v wr => ∃ i : Nat, i ≤ 8 ∧ sh = .int .i64 (56 - 8 * i) ∧ v = .slice (some ⟨w.heap.size, 0, none⟩) (1 + gap n + i) (9 + gap n) ∧ wr.ownsRow w.heap.size 5 1 v (1 + gap n + i) (Vb (pad n ++ count8 n i)) ∧ Below w.heap.size w wr) (fun sh _ _ => (intOf sh + 8).toNat)
  case atStart => exact ⟨0, by omega, rfl, rfl, by simpa [count8] using hown, hbel⟩
  case round =>
    clear hown hbel
    obtain ⟨i, hi8, rfl, rfl, hown, hbel⟩ := hrel
    by_cases hlt : i < 8
    · go_wp2_with (refine wpList_append_fits _ rfl (.tmp 26) (.tmp 31) 22 rfl w.heap.size 5 i0 1 Tryz.underlying22 hi hz1 w.heap.size (1 + gap n + i) (9 + gap n) (Vb (pad n ++ count8 n i)) rfl (hown.alloc _) ⟨wr.heap.size, 0, none⟩ 1 1 [.int .u8 ((n : Int) * 8 / 2 ^ (56 - 8 * i) % 256)] rfl rfl (new_one wr _ 5) (one_one _ _) (by omega) ?_; intro w2 hown2 hgrow2)
      go_roundw
      case rel =>
        refine ⟨i + 1, by omega, by go_num, rfl, ?_, ?_⟩
        · rw [count_val] at hown2
          simpa [count8, Vb, Nat.add_assoc] using hown2
        · exact (hbel.alloc hbel.size _).grown hgrow2 (by have := hbel.size; simp; omega) (by simp)
      case measure => simp [intOf]; omega
    · obtain rfl : i = 8 := by omega
      go_wp2_with fail
      go_ret
      have e : 9 + gap n = 1 + gap n + 8 := by omega
      refine ⟨w.heap.size, 9 + gap n, ?_, ?_, hbel⟩
      · show Ending.returned (.slice (some ⟨w.heap.size, 0, none⟩) (1 + gap n + 8) (9 + gap n)) = _
        rw [endB_length, e]
      · rw [endB_length]
        rw [e] at hown ⊢
        exact hown

end Go.Proofs.YtlpljedacohngaaGreatDoor
end

/-
  A stream as plain data: what it was told; texts in memory; copy into a block that is known. Plain definitions and theorems; no condition.
-/

section
set_option maxRecDepth 100000
set_option linter.unusedSimpArgs false
set_option linter.unusedVariables false
namespace Go.Proofs.YtlpljedacohngaaGreatDoor
open Go.RowKit

def chunk (m : List B8) (i : Nat) : List B8 := (m.drop (64 * i)).take 64
/-- The words behind the first i blocks. -/
def foldN (ks : List B32) (m : List B8) : Nat → S8
  | 0 => start8
  | i + 1 => turn8 ks (foldN ks m i) (chunk m i)
theorem chunk_append {m x : List B8} {i : Nat} (h : 64 * (i + 1) ≤ m.length) : chunk (m ++ x) i = chunk m i := by
  unfold chunk
  rw [List.drop_append_of_le_length (by omega), List.take_append_of_le_length (by rw [List.length_drop]; omega)]
theorem foldN_append (ks : List B32) {m x : List B8} : ∀ {i : Nat}, 64 * i ≤ m.length → foldN ks (m ++ x) i = foldN ks m i
  | 0, _ => rfl
  | i + 1, h => by rw [foldN, foldN, foldN_append ks (i := i) (by omega), chunk_append h]
theorem chunk_length {m : List B8} {i : Nat} (h : 64 * (i + 1) ≤ m.length) : (chunk m i).length = 64 := by
  unfold chunk
  rw [List.length_take, List.length_drop]
  omega

/-- The cells of a stream. -/
def strCells (ws : List B32) (rs : List B8) (n : Nat) : List Value := Wd ws ++ (Vb rs ++ [.int .i64 n])
theorem strCells_length {ws : List B32} {rs : List B8} {n : Nat} (h1 : ws.length = 8) (h2 : rs.length = 64) : (strCells ws rs n).length = 73 := by
  simp [strCells, Wd_length, Vb_length, h1, h2]
theorem strCells_oneCell (ws : List B32) (rs : List B8) (n : Nat) : ∀ u ∈ strCells ws rs n, u.oneCell' = true := by
  intro u hu
  rcases List.mem_append.1 hu with h | h
  · exact Wd_oneCell _ u h
  · rcases List.mem_append.1 h with h | h
    · exact Vb_oneCell _ u h
    · simp at h; subst h; rfl

/-- The stream at p was told just the bytes m. -/
def IsStr (ks : List B32) (w : World) (p : Nat) (m : List B8) : Prop := ∃ ws rs, Blk w p 120 (strCells ws rs m.length) ∧ ws.length = 8 ∧ rs.length = 64 ∧
  (0 < m.length → ws = (foldN ks m (m.length / 64)).list) ∧ rs.take (m.length % 64) = m.drop (64 * (m.length / 64))

theorem zeroCells_str : zeroCells = strCells (List.replicate 8 0#32) (List.replicate 64 0#8) 0 := by
  unfold zeroCells strCells Wd Vb nw nb
  rfl
theorem zero_str (ks : List B32) {w : World} {p : Nat} (h : Blk w p 120 zeroCells) : IsStr ks w p [] :=
  ⟨List.replicate 8 0#32, List.replicate 64 0#8, by rw [zeroCells_str] at h; exact h, rfl, rfl, fun h => by simp at h, rfl⟩
theorem IsStr.only {ks : List B32} {w w' : World} {p : Nat} {m : List B8} {S : List Nat} (h : IsStr ks w p m) (ho : Only S w w') (hp : p ∉ S) : IsStr ks w' p m := by
  obtain ⟨ws, rs, hb, h1, h2, h3, h4⟩ := h
  exact ⟨ws, rs, hb.only ho hp, h1, h2, h3, h4⟩
theorem IsStr.lt {ks : List B32} {w : World} {p : Nat} {m : List B8} (h : IsStr ks w p m) : p < w.heap.size := by
  obtain ⟨ws, rs, hb, _⟩ := h
  exact hb.lt
theorem IsStr.below {ks : List B32} {w w' : World} {p : Nat} {m : List B8} {B : Nat} (h : IsStr ks w p m) (ho : Below B w w') (hp : p < B) : IsStr ks w' p m := by
  obtain ⟨ws, rs, hb, h1, h2, h3, h4⟩ := h
  exact ⟨ws, rs, hb.below ho hp, h1, h2, h3, h4⟩

/-- A text: so many bytes in memory, outside block p. -/
structure Txt (w : World) (p : Nat) (A : Option Addr) (n c : Nat) (bs : List B8) : Prop where
  len : bs.length = n
  cap : n ≤ c
  capm : c ≤ maxLen
  cells : 0 < n → ∃ g o, A = some ⟨g, o, none⟩ ∧ g ≠ p ∧ ∀ j, j < n → w.cell? ⟨g, o + j, none⟩ = some (.int .u8 (nb (bs.getD j 0)))
theorem Txt.only {w w' : World} {p : Nat} {A : Option Addr} {n c : Nat} {bs : List B8} (h : Txt w p A n c bs) (ho : Only [p] w w') : Txt w' p A n c bs := by
  refine ⟨h.len, h.cap, h.capm, fun hn => ?_⟩
  obtain ⟨g, o, hA, hg, hc⟩ := h.cells hn
  refine ⟨g, o, hA, hg, fun j hj => ?_⟩
  have h0 := hc j hj
  rw [← h0]
  unfold World.cell?
  rw [show (⟨g, o + j, none⟩ : Addr).block = g from rfl, ho.block g (World.block_lt_of_cell? w _ h0) (by simp [hg])]
theorem Txt.below {w w' : World} {p B : Nat} {A : Option Addr} {n c : Nat} {bs : List B8} (h : Txt w p A n c bs) (ho : Below B w w') (hB : w.heap.size ≤ B) : Txt w' p A n c bs := by
  refine ⟨h.len, h.cap, h.capm, fun hn => ?_⟩
  obtain ⟨g, o, hA, hg, hc⟩ := h.cells hn
  refine ⟨g, o, hA, hg, fun j hj => (ho.cell ?_).trans (hc j hj)⟩
  have := World.block_lt_of_cell? w _ (hc j hj)
  show g < B
  have h2 : g < w.heap.size := this
  omega
/-- The text behind its first k bytes. -/
theorem Txt.drop {w : World} {p g o n c k : Nat} {bs : List B8} (h : Txt w p (some ⟨g, o, none⟩) n c bs) (hk : k ≤ n) (A : Option Addr) (hA : k < n → A = some ⟨g, o + k, none⟩) : Txt w p A (n - k) (c - k) (bs.drop k) := by
  refine ⟨by rw [List.length_drop, h.len], by have := h.cap; omega, by have := h.capm; omega, fun hn => ?_⟩
  obtain ⟨g', o', hA', hg, hc⟩ := h.cells (by omega)
  simp only [Option.some.injEq, Addr.mk.injEq, and_true] at hA'
  obtain ⟨rfl, rfl⟩ := hA'
  refine ⟨g, o + k, hA (by omega), hg, fun j hj => ?_⟩
  rw [Nat.add_assoc, hc (k + j) (by omega)]
  simp [List.getD_eq_getElem?_getD]

theorem over_str {ws : List B32} {rs bs : List B8} {n r : Nat} (hw : ws.length = 8) (hr : r + bs.length ≤ rs.length) : over (strCells ws rs n) (8 + r) (Vb bs) = strCells ws (rs.take r ++ (bs ++ rs.drop (r + bs.length))) n := by
  have hW : (Wd ws).length = 8 := by rw [Wd_length, hw]
  have hV : (Vb rs).length = rs.length := Vb_length rs
  unfold over strCells
  have e1 : (Wd ws ++ (Vb rs ++ [Value.int .i64 n])).take (8 + r) = Wd ws ++ Vb (rs.take r) := by
    rw [List.take_append, hW, Nat.add_sub_cancel_left, List.take_of_length_le (by omega), List.take_append_of_le_length (by omega), Vb_take]
  have e2 : (Wd ws ++ (Vb rs ++ [Value.int .i64 n])).drop (8 + r + (Vb bs).length) = Vb (rs.drop (r + bs.length)) ++ [Value.int .i64 n] := by
    rw [List.drop_append, hW, List.drop_eq_nil_of_le (by omega), List.nil_append, Vb_length, show 8 + r + bs.length - 8 = r + bs.length by omega, List.drop_append_of_le_length (by omega), Vb_drop]
  rw [e1, e2]
  simp [Vb_append]
theorem set_str {ws : List B32} {rs : List B8} {n k : Nat} (hw : ws.length = 8) (hr : rs.length = 64) : (strCells ws rs n).set 72 (.int .i64 (k : Nat)) = strCells ws rs k := by
  unfold strCells
  rw [List.set_append_right _ _ (by rw [Wd_length]; omega), List.set_append_right _ _ (by rw [Wd_length, Vb_length]; omega), Wd_length, Vb_length, hw, hr]
  rfl

/-- Where a telling stands: k bytes of the text were turned. -/
def TRel (ks : List B32) (w0 : World) (p : Nat) (m bs : List B8) (n c : Nat) (v : Value) (wx : World) : Prop := ∃ (k : Nat) (A' : Option Addr) (rs' : List B8), k ≤ n ∧ v = .slice A' (n - k) (c - k) ∧ Txt wx p A' (n - k) (c - k) (bs.drop k) ∧ (m.length + k) % 64 = 0 ∧ rs'.length = 64 ∧
  Blk wx p 120 (strCells (foldN ks (m ++ bs) ((m.length + k) / 64)).list rs' (m.length + n)) ∧ Only [p] w0 wx
def sliceLen : Value → Nat
  | .slice _ n _ => n
  | _ => 0

/-- The text fits into the block that was begun. -/
theorem str_small {ks : List B32} {w : World} {p n : Nat} {m bs rs : List B8} (hn : bs.length = n) (hr : rs.length = 64) (hrs : rs.take (m.length % 64) = m.drop (64 * (m.length / 64))) (hf : m.length % 64 + n < 64)
    (hb : Blk w p 120 (strCells (foldN ks m (m.length / 64)).list (rs.take (m.length % 64) ++ (bs ++ rs.drop (m.length % 64 + bs.length))) (m.length + n))) : IsStr ks w p (m ++ bs) := by
  have hl : (m ++ bs).length = m.length + n := by simp [hn]
  have hd : (m.length + n) / 64 = m.length / 64 := by omega
  have hm : (m.length + n) % 64 = m.length % 64 + n := by omega
  refine ⟨_, _, by rw [hl]; exact hb, rfl, by simp [hr]; omega, fun _ => ?_, ?_⟩
  · rw [hl, hd, foldN_append ks (by omega)]
  · rw [hl, hd, hm, ← List.append_assoc, List.take_append_of_le_length (by simp [hr]; omega), List.take_of_length_le (by simp [hr]; omega), hrs, List.drop_append_of_le_length (by omega)]

/-- The block that was begun is fullD. -/
theorem chunk_fill {m bs rs : List B8} {r q : Nat} (hq : q = m.length / 64) (hr : r = m.length % 64) (hrs : rs.take (m.length % 64) = m.drop (64 * (m.length / 64))) (hl : rs.length = 64) (hn : 64 - r ≤ bs.length) :
    rs.take r ++ (bs.take (64 - r) ++ rs.drop (r + (bs.take (64 - r)).length)) = chunk (m ++ bs) q := by
  subst hq hr
  have e1 : (bs.take (64 - m.length % 64)).length = 64 - m.length % 64 := by rw [List.length_take]; omega
  rw [e1, List.drop_eq_nil_of_le (by omega), List.append_nil, hrs]
  unfold chunk
  have hX : (m.drop (64 * (m.length / 64))).length = m.length % 64 := by rw [List.length_drop]; omega
  rw [List.drop_append_of_le_length (by omega), List.take_append, hX]
  congr 1
  exact (List.take_of_length_le (by omega)).symm
theorem rest_cell {w : World} {p n : Nat} {ws : List B32} {rs : List B8} (hb : Blk w p 120 (strCells ws rs n)) (hw : ws.length = 8) (hr : rs.length = 64) : ∀ j, j < 64 → w.cell? ⟨p, 8 + j, none⟩ = some (.int .u8 (nb (rs.getD j 0))) := by
  intro j hj
  rw [hb.cell]; unfold strCells
  rw [List.getElem?_append_right (by rw [Wd_length]; omega), Wd_length, hw, Nat.add_sub_cancel_left, List.getElem?_append_left (by rw [Vb_length]; omega), Vb_get, List.getD_eq_getElem?_getD, List.getElem?_eq_getElem (by omega)]
  rfl

/-- What is left of the text lies in the rest. -/
theorem str_last {ks : List B32} {w : World} {p n k : Nat} {m bs rs : List B8} (hn : bs.length = n) (hr : rs.length = 64) (hk : k ≤ n) (hz : (m.length + k) % 64 = 0) (hf : n - k < 64)
    (hb : Blk w p 120 (strCells (foldN ks (m ++ bs) ((m.length + k) / 64)).list (rs.take 0 ++ (bs.drop k ++ rs.drop (0 + (bs.drop k).length))) (m.length + n))) : IsStr ks w p (m ++ bs) := by
  have hl : (m ++ bs).length = m.length + n := by simp [hn]
  have hd : (m.length + n) / 64 = (m.length + k) / 64 := by omega
  have hm : (m.length + n) % 64 = n - k := by omega
  have h64 : 64 * ((m.length + k) / 64) = m.length + k := by omega
  refine ⟨_, _, by rw [hl]; exact hb, rfl, by simp [hr]; omega, fun _ => ?_, ?_⟩
  · rw [hl, hd]
  · rw [hl, hd, hm, h64, List.take_zero, List.nil_append, List.take_append_of_le_length (by simp [hn]), List.take_of_length_le (by simp [hn]), List.drop_append]
    simp

theorem tell_mid {ks : List B32} {w0 w : World} {p g o n c r : Nat} {m bs : List B8} (hn : 64 - r ≤ n) (h0 : 0 < r) (hr : r = m.length % 64) (ht : Txt w0 p (some ⟨g, o, none⟩) n c bs) (hO : Only [p] w0 w)
    (hb : Blk w p 120 (Wd (turn8 ks (foldN ks m (m.length / 64)) (chunk (m ++ bs) (m.length / 64))).list ++ (Vb (chunk (m ++ bs) (m.length / 64)) ++ [.int .i64 (m.length + n : Nat)])))
    (A' : Option Addr) (hA : 64 - r < n → A' = some ⟨g, o + (64 - r), none⟩) (c' : Nat) (hc : c' = c - (64 - r)) : TRel ks w0 p m bs n c (.slice A' (n - (64 - r)) c') w := by
  subst hc
  have hlen := ht.len
  have hq : (m.length + (64 - r)) / 64 = m.length / 64 + 1 := by omega
  refine ⟨64 - r, A', chunk (m ++ bs) (m.length / 64), hn, rfl, (ht.drop hn A' hA).only hO, by omega, chunk_length (by rw [List.length_append, hlen]; omega), ?_, hO⟩
  rw [hq, foldN, foldN_append ks (by omega)]
  exact hb
theorem tell_next {ks : List B32} {w0 w1 w : World} {p g o n c k : Nat} {m bs rs' : List B8} (hk : k ≤ n) (hz : (m.length + k) % 64 = 0) (h64 : 64 ≤ n - k) (hr' : rs'.length = 64) (ht : Txt w1 p (some ⟨g, o, none⟩) (n - k) (c - k) (bs.drop k)) (h1 : Only [p] w0 w1) (hO : Only [p] w1 w)
    (hb : Blk w p 120 (Wd (turn8 ks (foldN ks (m ++ bs) ((m.length + k) / 64)) ((bs.drop k).take 64)).list ++ (Vb rs' ++ [.int .i64 (m.length + n : Nat)])))
    (A' : Option Addr) (hA : 64 < n - k → A' = some ⟨g, o + 64, none⟩) (c' n' : Nat) (hc : c' = c - k - 64) (hn : n' = n - k - 64) : TRel ks w0 p m bs n c (.slice A' n' c') w := by
  subst hc hn
  have hq : (m.length + (k + 64)) / 64 = (m.length + k) / 64 + 1 := by omega
  have h64q : 64 * ((m.length + k) / 64) = m.length + k := by omega
  refine ⟨k + 64, A', rs', by omega, by rw [Nat.sub_sub, Nat.sub_sub], ?_, by omega, hr', ?_, h1.trans hO⟩
  · have := (ht.drop h64 A' hA).only hO
    rw [List.drop_drop, Nat.sub_sub, Nat.sub_sub] at this
    exact this
  · have hc : chunk (m ++ bs) ((m.length + k) / 64) = (bs.drop k).take 64 := by
      unfold chunk
      rw [h64q, List.drop_append, List.drop_eq_nil_of_le (by omega), List.nil_append, Nat.add_sub_cancel_left]
    rw [hq, foldN, hc]
    exact hb

/-- copy of a text into a block that is known. -/
theorem wpList_copy_blk {P : Program} {w : World} {ops : Array Oper} {rest : List Oper} {o : Oper} {a : Act} {Q : Exit → Act → World → Prop} (hgd : o.guard = none) (d s : Operand) (dT sT : TypeId)
    (ho : o.op = .call { callee := .builtin .copy, args := #[d, s], argTypes := #[dT, sT] }) (elem : TypeId) (hu : P.underlying dT = some (.slice elem)) (hsz : (P.info? elem).map (·.size) = some 1)
    (g off dLen dCap : Nat) (hd : a.eval d = .slice (some ⟨g, off, none⟩) dLen dCap) {A : Option Addr} {n c : Nat} {bs : List B8} (hs : a.eval s = .slice A n c)
    {t : TypeId} {cs : List Value} (hb : Blk w g t cs) (ht : Txt w g A n c bs) (hfit : off + dLen ≤ cs.length)
    (h : ∀ w', Blk w' g t (over cs off (Vb (bs.take dLen))) → Only [g] w w' → wpList P ops Q rest (a.put o.dst (goInt (bs.take dLen).length)) w') :
    wpList P ops Q (o :: rest) a w := by
  have hlen := ht.len
  by_cases h0 : Nat.min n dLen = 0
  · have he : bs.take dLen = [] := List.eq_nil_of_length_eq_zero (by rw [List.length_take, hlen]; rw [Nat.min_comm]; exact h0)
    refine wpList_copy_nothing hgd d s dT sT ho elem hu hsz _ _ dLen dCap n c hd hs h0 ?_
    have := h w (by rw [he]; simpa [over, Vb] using hb) (Only.refl _ _)
    rw [he] at this
    exact this
  · obtain ⟨g', o', rfl, hg, hc⟩ := ht.cells (by
      rcases Nat.eq_zero_or_pos n with h | h
      · subst h; exact absurd (Nat.zero_min dLen) h0
      · exact h)
    have hl : (Vb (bs.take dLen)).length = Nat.min n dLen := by rw [Vb_length, List.length_take, hlen, Nat.min_comm]
    have hmin : Nat.min n dLen ≤ dLen := Nat.min_le_right _ _
    refine wpList_copy_own hgd d s dT sT ho elem hu hsz g off dLen dCap ⟨g', o', none⟩ n c hd hs cs.toArray t hb (Vb (bs.take dLen)) hl ?_ (by simp; omega) (Vb_oneCell _) ?_
    · intro j v hv
      rw [Vb_get, List.getElem?_take] at hv
      split at hv
      · rw [Addr.add_mid]
        cases hx : bs[j]? with
        | none => rw [hx] at hv; cases hv
        | some x =>
          rw [hx] at hv
          simp only [Option.map_some, Option.some.injEq] at hv
          subst hv
          have hj : j < n := by have := (List.getElem?_eq_some_iff.1 hx).1; omega
          rw [hc j hj, List.getD_eq_getElem?_getD, hx]
          rfl
      · cases hv
    · have hB : Blk (w.setRow g ((cs.toArray).toList.take off ++ (Vb (bs.take dLen) ++ (cs.toArray).toList.drop (off + (Vb (bs.take dLen)).length))).toArray) g t (over cs off (Vb (bs.take dLen))) := by
        have := setRow_heap w g cs.toArray (cs.take off ++ (Vb (bs.take dLen) ++ cs.drop (off + (Vb (bs.take dLen)).length))).toArray t _ hb
        unfold Blk over
        simpa using this
      have := h _ hB ((Only.refl _ _).setRow (.inl (by simp)) _)
      rw [Vb_length]
      rw [Vb_length] at this
      exact this

end Go.Proofs.YtlpljedacohngaaGreatDoor
end

/-
  tell: a stream is told a text more. Conditions: the stream is known; the constants lie in their variable; at most 2^50 bytes in all.
-/

section
set_option maxRecDepth 100000
set_option linter.unusedSimpArgs false
set_option linter.unusedVariables false
namespace Go.Proofs.YtlpljedacohngaaGreatDoor
open Go.RowKit

theorem info3 : (Tryz.prog.info? 3).map (·.size) = some 1 := by kernel_rfl
theorem cell72 {w : World} {p : Nat} {ws : List B32} {rs : List B8} {n : Nat} (hb : Blk w p 120 (strCells ws rs n)) (hws : ws.length = 8) (hrs : rs.length = 64) : w.cell? ⟨p, 72, none⟩ = some (.int .i64 (n : Nat)) := by
  rw [hb.cell]; unfold strCells
  rw [List.getElem?_append_right (by rw [Wd_length]; omega), List.getElem?_append_right (by rw [Wd_length, Vb_length]; omega)]
  simp [Wd_length, Vb_length, hws, hrs]

theorem slice_rest (p r : Nat) (hr : r < 64) (W : World) : (Instr.sliceAt 118 (.pointer (some ⟨p, 8, none⟩)) (some (.int .i64 r)) none none).run Tryz.prog W = .ok (.slice (some ⟨p, 8 + r, none⟩) (64 - r) (64 - r)) W := by
  have hl : Tryz.prog.arrayLen 118 = 64 := by kernel_rfl
  have he : Tryz.prog.elem 118 = 5 := by kernel_rfl
  have hs : (sizeOf 5).run Tryz.prog W = .ok 1 W := by kernel_rfl
  have h := run_sliceAt_array_l (P := Tryz.prog) W 118 ⟨p, 8, none⟩ (by rw [hl, he]; exact Tryz.underlying118) .i64 r (by omega) (by rw [hl]; omega)
  rw [h, he, hs, hl]
  simp only [Result.andThen_ok, slicedAt, Int.toNat_natCast]
  rw [if_neg (by omega), Addr.add_mid, Nat.mul_one]

theorem slice_all (p : Nat) (W : World) : (Instr.sliceAt 118 (.pointer (some ⟨p, 8, none⟩)) none none none).run Tryz.prog W = .ok (.slice (some ⟨p, 8, none⟩) 64 64) W := by
  have hl : Tryz.prog.arrayLen 118 = 64 := by kernel_rfl
  have he : Tryz.prog.elem 118 = 5 := by kernel_rfl
  have hs : (sizeOf 5).run Tryz.prog W = .ok 1 W := by kernel_rfl
  have h := run_sliceAt_array_all (P := Tryz.prog) W 118 ⟨p, 8, none⟩ (by rw [hl, he]; exact Tryz.underlying118)
  rw [h, he, hs, hl]
  simp only [Result.andThen_ok, slicedAt]
  rw [if_neg (by omega), Addr.add_mid]

theorem slice_64 (g o n c : Nat) (h : 64 ≤ c) (W : World) : (Instr.sliceAt 22 (.slice (some ⟨g, o, none⟩) n c) none (some (.int .i64 64)) none).run Tryz.prog W = .ok (.slice (some ⟨g, o, none⟩) 64 c) W := by
  have he : Tryz.prog.elem 22 = 5 := by kernel_rfl
  have hs : (sizeOf 5).run Tryz.prog W = .ok 1 W := by kernel_rfl
  have hu : Tryz.prog.underlying 22 = some (.slice (Tryz.prog.elem 22)) := by rw [he]; exact Tryz.underlying22
  rw [run_sliceAt_slice _ _ _ _ _ _ hu, run_slice_h _ _ _ _ _ hu .i64 64 (by omega) (by omega), he, hs]
  simp only [Result.andThen_ok, sliced]
  simp [Addr.add_mid]

set_option maxHeartbeats 1000000 in
set_option maxRecDepth 100000 in
theorem tell_any (ks : List B32) (w : World) (p : Nat) (m : List B8) (A : Option Addr) (n c : Nat) (bs : List B8) (hp : 0 < p) (hK : Roots ks w) (hs : IsStr ks w p m) (ht : Txt w p A n c bs) (hlen : m.length + n ≤ 1125899906842624) :
    Calls Tryz.prog 66 #[.pointer (some ⟨p, 0, none⟩), .slice A n c] w fun e w' => e = .returned (.tuple #[]) ∧ IsStr ks w' p (m ++ bs) ∧ Only [p] w w' := by
  obtain ⟨ws, rs, hb, hws, hrs, hm1, hm2⟩ := hs
  have hcm := ht.capm
  have hcap := ht.cap
  have c72 := cell72 hb hws hrs
  unfold maxLen at hcm
  have HB := Lib.hid hb
  have HM1 := Lib.hid hm1
  have HM2 := Lib.hid hm2
  have HK := Lib.hid hK
  have HT := Lib.hid ht
  clear hb hm1 hm2 hK ht
  go_enter Tryz.func66, Tryz.ntmps66
  go_upto_if 10 with fail
  go_cut [] (fun wx => Blk wx p 120 (strCells (foldN ks m (m.length / 64)).list rs m.length) ∧ Only [p] w wx)
  case first =>
    by_cases h0 : m.length = 0
    · have hd : ((m.length : Int) == 0) = true := by simp [h0]
      go_wp2_with (go_at_call 78; refine (begin_any w p ws hws _ HB.out).mono ?_; rintro e w' ⟨rfl, h1, h2⟩)
      go_meet
      refine ⟨?_, h2⟩
      rw [show m.length / 64 = 0 by omega]
      exact h1
    · have hd : ((m.length : Int) == 0) = false := beq_eq_false_iff_ne.2 (by omega)
      go_wp2_with fail
      go_meet
      refine ⟨?_, Only.refl _ _⟩
      rw [← HM1.out (by omega)]
      exact HB.out
  case rest =>
    obtain ⟨hb, ho⟩ := hcut
    obtain ⟨r, hr⟩ : ∃ r, r = m.length % 64 := ⟨_, rfl⟩
    have hri : (m.length : Int) % 64 = (r : Int) := by omega
    have hr64 : r < 64 := by omega
    have c72 : wc.cell? ⟨p, 72, none⟩ = some (.int .i64 (m.length : Nat)) := cell72 hb rfl hrs
    have hfz := hb.frozen 72
    have HR := Lib.hid hr
    have HB2 := Lib.hid hb
    have HO := Lib.hid ho
    clear hb ho hr
    go_upto_if 30 with (refine wpList_store_one rfl 3 (.tmp 28) (.tmp 26) rfl p 72 .i64 _ rfl rfl HB2.out (by rw [strCells_length rfl hrs]; omega) info3 ?_; intro w2 hb2 o2)
    rw [show ((m.length : Int) + (n : Int)) = ((m.length + n : Nat) : Int) by omega, set_str rfl hrs] at hb2
    have HB3 := Lib.hid hb2
    have HO2 := Lib.hid (HO.out.trans o2)
    clear hb2 o2 c72 hfz
    go_cut [1] (fun v wx => TRel ks w p m bs n c v wx)
    case first =>
      by_cases h0 : 0 < r
      · have hd : decide (0 < r) = true := decide_eq_true h0
        have hbl := HT.out.len
        have hsl := slice_rest p r hr64
        by_cases hA : n < 64 - r
        · have hmin : min (64 - r) n = n := by omega
          have htk : bs.take (64 - r) = bs := List.take_of_length_le (by omega)
          go_wp2_with (refine wpList_copy_blk rfl (.tmp 35) (.tmp 36) 22 22 rfl 5 Tryz.underlying22 info5 p (8 + r) (64 - r) (64 - r) rfl rfl HB3.out (HT.out.only HO2.out) (by rw [strCells_length rfl hrs]; omega) ?_; intro w3 hb3 o3)
          rw [htk, over_str rfl (by rw [hrs, hbl]; omega), HR.out] at hb3
          refine bodyPost_ret (results_none rfl _ _ _) rfl ⟨rfl, ?_, HO2.out.trans o3⟩
          exact str_small hbl hrs HM2.out (by have := HR.out; omega) hb3
        · have hmin : min (64 - r) n = 64 - r := by omega
          go_wp2_with (refine wpList_copy_blk rfl (.tmp 35) (.tmp 36) 22 22 rfl 5 Tryz.underlying22 info5 p (8 + r) (64 - r) (64 - r) rfl rfl HB3.out (HT.out.only HO2.out) (by rw [strCells_length rfl hrs]; omega) ?_; intro w3 hb3 o3)
          rw [over_str rfl (by rw [hrs, List.length_take]; omega), chunk_fill rfl HR.out HM2.out hrs (by omega)] at hb3
          have hsa := slice_all p
          have HB4 := Lib.hid hb3.drew
          have HO4 := Lib.hid (HO2.out.trans o3)
          clear hb3 o3
          go_still_tail 7, (by kernel_rfl)
          change wpList _ _ _ _ _ w3.drew
          have hq64 : (chunk (m ++ bs) (m.length / 64)).length = 64 := chunk_length (by rw [List.length_append, hbl]; have := HR.out; omega)
          generalize hw4 : w3.drew = w4 at HB4
          have HO5 : Hid (Only [p] w w4) := by rw [← hw4]; exact HO4.out.drew
          clear HO4 hw4
          obtain ⟨g, o, rfl, hgp, -⟩ := HT.out.cells (by omega)
          go_wp2_with (go_at_call 79; refine (turn_any ks w4 p p 8 64 (foldN ks m (m.length / 64)) (Vb (chunk (m ++ bs) (m.length / 64)) ++ [.int .i64 (m.length + n : Nat)]) (chunk (m ++ bs) (m.length / 64)) hp (HK.out.only HO5.out (by simp; omega)) HB4.out (rest_cell HB4.out rfl hq64)).mono ?_; rintro e w5 ⟨rfl, h5, o5⟩)
          all_goals go_meet
          all_goals first
            | exact tell_mid (by omega) h0 HR.out HT.out (HO5.out.trans o5) h5 _ (fun _ => rfl) _ rfl
            | exact tell_mid (by omega) h0 HR.out HT.out (HO5.out.trans o5) h5 _ (fun h => absurd h (by omega)) _ (by omega)
      · obtain rfl : r = 0 := by omega
        have hd : decide (0 < 0) = false := by decide
        go_wp2_with fail
        go_meet
        refine ⟨0, A, rs, by omega, rfl, by simpa using HT.out.only HO2.out, by have := HR.out; omega, hrs, ?_, HO2.out⟩
        rw [Nat.add_zero, foldN_append ks (by omega)]
        exact HB3.out
    case rest =>
      clear HB2 HO HB3 HO2 c72
      go_wp2_with fail
      go_loopw [1] (fun v wr => TRel ks w p m bs n c v wr) (fun v _ => sliceLen v)
      case atStart => exact hcut
      case round =>
        clear hcut
        obtain ⟨k, A', rs', hk, rfl, hT, hz, hr', hb, hO⟩ := hrel
        have hcap' := hT.cap
        have hlen' := hT.len
        have hbl := HT.out.len
        by_cases h64 : 64 ≤ n - k
        · obtain ⟨g, o, rfl, hgp, hcells⟩ := hT.cells (by omega)
          have HTK := Lib.hid hT
          have HBK := Lib.hid hb
          have HOK := Lib.hid hO
          have HCS := Lib.hid hcells
          clear hT hb hO hcells
          have hs64 := slice_64 g o (n - k) (c - k) (by omega)
          go_wp2_with fail
          go_still_tail 5, (by kernel_rfl)
          change wpList _ _ _ _ _ wr.drew
          have hb4 : Blk wr.drew p 120 (Wd (foldN ks (m ++ bs) ((m.length + k) / 64)).list ++ (Vb rs' ++ [.int .i64 (m.length + n : Nat)])) := HBK.out.drew
          have hc4 : ∀ j, j < 64 → wr.drew.cell? ⟨g, o + j, none⟩ = some (.int .u8 (nb (((bs.drop k).take 64).getD j 0))) := by
            intro j hj
            refine (HCS.out j (by omega)).trans ?_
            simp [List.getD_eq_getElem?_getD, hj]
          have ho4 : Only [p] wr wr.drew := (Only.refl _ _).drew
          have hk4 : Roots ks wr.drew := HK.out.only (HOK.out.trans ho4) (by simp; omega)
          generalize wr.drew = w4 at hb4 hc4 ho4 hk4
          have HB4 := Lib.hid hb4
          have HC4 := Lib.hid hc4
          have HO4 := Lib.hid ho4
          have HK4 := Lib.hid hk4
          clear hb4 hc4 ho4 hk4
          go_wp2_with (go_at_call 79; refine (turn_any ks w4 p g o (c - k) (foldN ks (m ++ bs) ((m.length + k) / 64)) (Vb rs' ++ [.int .i64 (m.length + n : Nat)]) ((bs.drop k).take 64) hp HK4.out HB4.out HC4.out).mono ?_; rintro e w5 ⟨rfl, h5, o5⟩)
          have hcap2 := HTK.out.cap
          go_roundw
          case rel => exact tell_next hk hz h64 hr' HTK.out HOK.out (HO4.out.trans o5) h5 _ (fun h => by rw [if_neg (by omega)]) _ _ rfl rfl
          case measure => simp [sliceLen]; omega
        · have HTK := Lib.hid hT
          have HBK := Lib.hid hb
          have HOK := Lib.hid hO
          clear hT hb hO
          have hsa := slice_all p
          go_wp2_with (refine wpList_copy_blk rfl (.tmp 67) (.tmp 68) 22 22 rfl 5 Tryz.underlying22 info5 p 8 64 64 rfl rfl HBK.out HTK.out (by rw [strCells_length rfl hr']; omega) ?_; intro w3 hb3 o3)
          rw [List.take_of_length_le (by rw [HTK.out.len]; omega)] at hb3
          have hb3 : Blk w3 p 120 (over (strCells (foldN ks (m ++ bs) ((m.length + k) / 64)).list rs' (m.length + n)) (8 + 0) (Vb (bs.drop k))) := hb3
          rw [over_str rfl (by rw [hr', HTK.out.len]; omega)] at hb3
          go_end0
          exact ⟨rfl, str_last hbl hr' hk hz (by omega) hb3, HOK.out.trans o3⟩

end Go.Proofs.YtlpljedacohngaaGreatDoor
end

/-
  Sum and Write. Conditions: the stream is known; the constants lie in their variable; at most 2^49 bytes in all.
-/

section
set_option maxRecDepth 100000
set_option linter.unusedSimpArgs false
set_option linter.unusedVariables false
namespace Go.Proofs.YtlpljedacohngaaGreatDoor
open Go.RowKit

/-- The digest, plainly. -/
def fullD (m : List B8) : List B8 := m ++ endB m.length
def sha (ks : List B32) (m : List B8) : List B8 := outB (foldN ks (fullD m) ((fullD m).length / 64)) 8
theorem sha_length (ks : List B32) (m : List B8) : (sha ks m).length = 32 := outB_length _ 8

theorem txt_of_owned {w : World} {B p g n c : Nat} {bs : List B8} (h : w.ownsRow B 5 1 (.slice (some ⟨g, 0, none⟩) n c) n (Vb bs)) (hp : p < B) : Txt w p (some ⟨g, 0, none⟩) n c bs := by
  have hl : bs.length = n := by have := h.1; rw [Vb_length] at this; omega
  have hgb : B ≤ g ∧ n ≤ c ∧ c ≤ maxLen := by
    rcases h.2 with ⟨h', _⟩ | ⟨g', cap', cur, h', h1, _, h2, h3, _, _⟩
    · simp at h'
    · simp only [Value.slice.injEq, Option.some.injEq, Addr.mk.injEq, and_true, true_and] at h'
      obtain ⟨rfl, rfl⟩ := h'
      exact ⟨h1, h2, h3⟩
  refine ⟨hl, hgb.2.1, hgb.2.2, fun _ => ⟨g, 0, rfl, by omega, fun j hj => ?_⟩⟩
  rw [Nat.zero_add, h.cellAt j (by omega), Vb_get, List.getD_eq_getElem?_getD, List.getElem?_eq_getElem (by omega)]
  rfl

theorem IsStr.words {ks : List B32} {w : World} {p : Nat} {m : List B8} (h : IsStr ks w p m) (hm : 0 < m.length) : ∃ tl, Blk w p 120 (Wd (foldN ks m (m.length / 64)).list ++ tl) := by
  obtain ⟨ws, rs, hb, h1, h2, h3, h4⟩ := h
  rw [h3 hm] at hb
  exact ⟨_, hb⟩
theorem IsStr.len {ks : List B32} {w : World} {p : Nat} {m : List B8} (h : IsStr ks w p m) : w.cell? ⟨p, 72, none⟩ = some (.int .i64 (m.length : Nat)) := by
  obtain ⟨ws, rs, hb, h1, h2, h3, h4⟩ := h
  exact cell72 hb h1 h2

theorem fork_str (ks : List B32) (w : World) (p : Nat) (m : List B8) (h : IsStr ks w p m) : Calls Tryz.prog 80 #[.pointer (some ⟨p, 0, none⟩)] w fun e w' => ∃ q, e = .returned (.pointer (some ⟨q, 0, none⟩)) ∧ w.heap.size ≤ q ∧ IsStr ks w' q m ∧ Below w.heap.size w w' := by
  obtain ⟨ws, rs, hb, h1, h2, h3, h4⟩ := h
  refine (fork_any w p _ (strCells_oneCell ws rs m.length) (strCells_length h1 h2) hb).mono ?_
  rintro e w' ⟨q, rfl, hq, hb', hbel⟩
  exact ⟨q, rfl, hq, ⟨ws, rs, hb', h1, h2, h3, h4⟩, hbel⟩
theorem fork_str_nil (ks : List B32) (w : World) : Calls Tryz.prog 80 #[.pointer none] w fun e w' => ∃ q, e = .returned (.pointer (some ⟨q, 0, none⟩)) ∧ w.heap.size ≤ q ∧ IsStr ks w' q [] ∧ Below w.heap.size w w' := by
  refine (fork_nil w).mono ?_
  rintro e w' ⟨rfl, hb, hbel⟩
  exact ⟨_, rfl, Nat.le_refl _, zero_str ks hb, hbel⟩

/-- A stream, or nil, that was told m. -/
def PtrStr (ks : List B32) (w : World) (a : Option Addr) (m : List B8) : Prop := (a = none ∧ m = []) ∨ ∃ p, a = some ⟨p, 0, none⟩ ∧ IsStr ks w p m
theorem fork_ptr (ks : List B32) (w : World) (a : Option Addr) (m : List B8) (h : PtrStr ks w a m) : Calls Tryz.prog 80 #[.pointer a] w fun e w' => ∃ q, e = .returned (.pointer (some ⟨q, 0, none⟩)) ∧ w.heap.size ≤ q ∧ IsStr ks w' q m ∧ Below w.heap.size w w' := by
  rcases h with ⟨rfl, rfl⟩ | ⟨p, rfl, h⟩
  · exact fork_str_nil ks w
  · exact fork_str ks w p m h

set_option maxHeartbeats 1000000 in
set_option maxRecDepth 100000 in
theorem sum_any (ks : List B32) (w : World) (a : Option Addr) (m : List B8) (hK : Roots ks w) (h : PtrStr ks w a m) (hm : m.length ≤ 562949953421312) :
    Calls Tryz.prog 67 #[.pointer a] w fun e w' => e = .returned (.agg (Vb (sha ks m)).toArray) ∧ Below w.heap.size w w' := by
  have hpos := hK.pos
  have h1 : PtrStr ks (w.alloc (.cells (List.replicate 32 (Value.int .u8 0)).toArray 74)) a m := by
    rcases h with h | ⟨p, rfl, h⟩
    · exact .inl h
    · exact .inr ⟨p, rfl, h.below ((Below.refl _ _).alloc (Nat.le_refl _) _) h.lt⟩
  have HK := Lib.hid hK
  clear hK h
  go_enter Tryz.func67, Tryz.ntmps67
  go_wp2_with fail
  refine (fork_ptr ks _ a m h1).mono ?_
  clear h1
  rintro e w1 ⟨q, rfl, hq, hs1, hb1⟩
  have HR1 := Lib.hid ((Blk.new w 74 (List.replicate 32 (.int .u8 0))).below hb1 (by simp))
  have hb1' : Below w.heap.size w w1 := ((Below.refl _ _).alloc (Nat.le_refl _) _).trans (hb1.mono (by simp))
  have hsz1 := hb1'.size
  have hq1 := hs1.lt
  have c72 := hs1.len
  have HS1 := Lib.hid hs1
  have HB1 := Lib.hid hb1'
  have hq0 : w.heap.size < q := by simp at hq; omega
  clear hs1 hb1 hb1'
  go_wp2_with fail
  refine (ending_any w1 m.length (by omega)).mono ?_
  rintro e w2 ⟨g, c, rfl, hown, hb2⟩
  have ht2 : Txt w2 q (some ⟨g, 0, none⟩) (endB m.length).length c (endB m.length) := txt_of_owned hown hq1
  have hs2 := HS1.out.below hb2 hq1
  have hB2 : Below w.heap.size w w2 := HB1.out.trans (hb2.mono hsz1)
  have hK2 := HK.out.below hB2 hpos
  have hR2 := HR1.out.below hb2 (by omega)
  have HOLD := Lib.hid (And.intro ht2 (And.intro hs2 (And.intro hB2 (And.intro hK2 hR2))))
  clear hown ht2 hs2 hB2 hK2 hR2 hb2
  go_wp2_with fail
  have hel := endB_length m.length
  have hgl := gap_lt m.length
  refine (tell_any ks w2 q m (some ⟨g, 0, none⟩) (endB m.length).length c (endB m.length) (by omega) HOLD.out.2.2.2.1 HOLD.out.2.1 HOLD.out.1 (by omega)).mono ?_
  rintro e w3 ⟨rfl, hs3, ho3⟩
  have hB3 : Below w.heap.size w w3 := HOLD.out.2.2.1.trans (ho3.below (B := w.heap.size) HOLD.out.2.2.1.size (by simp; omega))
  have hR3 := HOLD.out.2.2.2.2.only ho3 (by simp; omega)
  obtain ⟨tl, hw3⟩ := hs3.words (by rw [List.length_append]; omega)
  have H3 := Lib.hid (And.intro hB3 (And.intro hR3 hw3))
  clear hs3 ho3 hB3 hR3 hw3
  go_wp2_with fail
  refine (bytes_any w3 q _ tl H3.out.2.2).mono ?_
  rintro e w4 ⟨he, hb4⟩
  have he2 : e = .returned (.agg (Vb (sha ks m)).toArray) := he
  clear he
  subst he2
  have hB4 : Below w.heap.size w w4 := H3.out.1.trans (hb4.mono H3.out.1.size)
  have hR4 : Blk w4 w.heap.size 74 (List.replicate 32 (.int .u8 0)) := H3.out.2.1.below hb4 (by have := H3.out.2.1.lt; exact this)
  have H4 := Lib.hid (And.intro hB4 hR4)
  clear hb4 hB4 hR4
  go_wp2_with (refine wpList_store_blk rfl 74 (.tmp 2) (.tmp 16) rfl w.heap.size 0 (Vb (sha ks m)) rfl rfl H4.out.2 (by simp [Vb_length, sha_length]) (info31.trans (by simp [Vb_length, sha_length])) (Vb_oneCell _) ?_; intro w5 hA hO)
  rw [over_whole (by simp [Vb_length, sha_length])] at hA
  refine bodyPost_ret (v := .agg (Vb (sha ks m)).toArray) ?_ rfl ⟨rfl, ?_⟩
  · exact ret_cell rfl rfl (run_loadVar_mid _ _ 0 74 _ _ hA.range Tryz.underlying74 rfl (info31.trans (by simp [Vb_length, sha_length])))
  · exact H4.out.1.trans (hO.below (B := w.heap.size) H4.out.1.size (by simp))

/-- Texts: so many slices in memory, outside block p, and what they hold. -/
structure Txts (w : World) (p : Nat) (L : Option Addr) (n : Nat) (xs : List (List B8)) : Prop where
  len : xs.length = n
  cells : 0 < n → ∃ g o, L = some ⟨g, o, none⟩ ∧ g ≠ p ∧ ∀ i x, xs[i]? = some x → ∃ A k c, w.cell? ⟨g, o + i, none⟩ = some (.slice A k c) ∧ Txt w p A k c x
theorem Txts.only {w w' : World} {p : Nat} {L : Option Addr} {n : Nat} {xs : List (List B8)} (h : Txts w p L n xs) (ho : Only [p] w w') : Txts w' p L n xs := by
  refine ⟨h.len, fun hn => ?_⟩
  obtain ⟨g, o, hL, hg, hc⟩ := h.cells hn
  refine ⟨g, o, hL, hg, fun i x hx => ?_⟩
  obtain ⟨A, k, c, h0, ht⟩ := hc i x hx
  refine ⟨A, k, c, ?_, ht.only ho⟩
  rw [← h0]
  unfold World.cell?
  rw [show (⟨g, o + i, none⟩ : Addr).block = g from rfl, ho.block g (World.block_lt_of_cell? w _ h0) (by simp [hg])]
theorem Txts.below {w w' : World} {p B : Nat} {L : Option Addr} {n : Nat} {xs : List (List B8)} (h : Txts w p L n xs) (ho : Below B w w') (hB : w.heap.size ≤ B) : Txts w' p L n xs := by
  refine ⟨h.len, fun hn => ?_⟩
  obtain ⟨g, o, hL, hg, hc⟩ := h.cells hn
  refine ⟨g, o, hL, hg, fun i x hx => ?_⟩
  obtain ⟨A, k, c, h0, ht⟩ := hc i x hx
  refine ⟨A, k, c, (ho.cell ?_).trans h0, ht.below ho hB⟩
  have h1 : g < w.heap.size := World.block_lt_of_cell? w _ h0
  show g < B
  omega

theorem take_flat {xs : List (List B8)} {i : Nat} {x : List B8} (h : xs[i]? = some x) : (xs.take (i + 1)).flatten = (xs.take i).flatten ++ x := by
  obtain ⟨hi, rfl⟩ := List.getElem?_eq_some_iff.1 h
  rw [List.take_succ_eq_append_getElem hi, List.flatten_append]
  simp
theorem take_flat_le (xs : List (List B8)) (i : Nat) : (xs.take i).flatten.length ≤ xs.flatten.length := by
  conv => rhs; rw [← List.take_append_drop i xs, List.flatten_append, List.length_append]
  omega

end Go.Proofs.YtlpljedacohngaaGreatDoor
end

/-
  The digests of no bytes and of abc, reckoned by the kernel. No condition.
-/

section
set_option maxRecDepth 100000
set_option linter.unusedSimpArgs false
set_option linter.unusedVariables false
namespace Go.Proofs.YtlpljedacohngaaGreatDoor
open Go.RowKit

/-- The steps' constants. -/
def rootsZ : List Int := [1116352408, 1899447441, 3049323471, 3921009573, 961987163, 1508970993, 2453635748, 2870763221, 3624381080, 310598401, 607225278, 1426881987, 1925078388, 2162078206, 2614888103, 3248222580, 3835390401, 4022224774, 264347078, 604807628, 770255983, 1249150122, 1555081692, 1996064986, 2554220882, 2821834349, 2952996808, 3210313671, 3336571891, 3584528711, 113926993, 338241895, 666307205, 773529912, 1294757372, 1396182291, 1695183700, 1986661051, 2177026350, 2456956037, 2730485921, 2820302411, 3259730800, 3345764771, 3516065817, 3600352804, 4094571909, 275423344, 430227734, 506948616, 659060556, 883997877, 958139571, 1322822218, 1537002063, 1747873779, 1955562222, 2024104815, 2227730452, 2361852424, 2428436474, 2756734187, 3204031479, 3329325298]
def Ks : List B32 := rootsZ.map fun z => BitVec.ofInt 32 z

/-- The sign of four bits. -/
def signs : List B8 := [48, 49, 50, 51, 52, 53, 54, 55, 56, 57, 97, 98, 99, 100, 101, 102]
def sign (i : Nat) : B8 := signs.getD i 0
/-- The signs of the first k bytes. -/
def hexS (d : List B8) : Nat → List B8
  | 0 => []
  | k + 1 => hexS d k ++ [sign ((d.getD k 0).toNat / 16), sign ((d.getD k 0).toNat % 16)]
theorem hexS_length (d : List B8) : ∀ k, (hexS d k).length = 2 * k
  | 0 => rfl
  | k + 1 => by simp [hexS, hexS_length d k]; omega

def textA : List B8 := [101, 51, 98, 48, 99, 52, 52, 50, 57, 56, 102, 99, 49, 99, 49, 52, 57, 97, 102, 98, 102, 52, 99, 56, 57, 57, 54, 102, 98, 57, 50, 52, 50, 55, 97, 101, 52, 49, 101, 52, 54, 52, 57, 98, 57, 51, 52, 99, 97, 52, 57, 53, 57, 57, 49, 98, 55, 56, 53, 50, 98, 56, 53, 53]
def textB : List B8 := [98, 97, 55, 56, 49, 54, 98, 102, 56, 102, 48, 49, 99, 102, 101, 97, 52, 49, 52, 49, 52, 48, 100, 101, 53, 100, 97, 101, 50, 50, 50, 51, 98, 48, 48, 51, 54, 49, 97, 51, 57, 54, 49, 55, 55, 97, 57, 99, 98, 52, 49, 48, 102, 102, 54, 49, 102, 50, 48, 48, 49, 53, 97, 100]

set_option maxRecDepth 1000000 in
theorem known_none : hexS (sha Ks []) 32 = textA := by decide +kernel
set_option maxRecDepth 1000000 in
theorem known_abc : hexS (sha Ks [97, 98, 99]) 32 = textB := by decide +kernel

end Go.Proofs.YtlpljedacohngaaGreatDoor
end
