/-
  spread: a block's words. Conditions: 64 bytes, each cell there.
-/
import Derived.Test.YtkblpcegdfhmoaaDoorDWhole
import Derived.Test.YtkblpcegdfhmoaaDoorDRot
import Derived.BigRegion
import Derived.Lib.Hide
import Derived.BigQuiet
namespace Go.Proofs.YtkblpcegdfhmoaaDoor
open Go.RowKit

attribute [local go_sem] add_u32 xor_u32 and_u32 or_u32 not_u32 shl_u32 shr_u32 div_u32 div_8 div_3 div_16 div_10 div_24

theorem blk_two (w : World) (t u : TypeId) (cs ds : List Value) : Blk ((w.alloc (.cells cs.toArray t)).alloc (.cells ds.toArray u)) (w.heap.size + 1) u ds := by
  have := Blk.new (w.alloc (.cells cs.toArray t)) u ds
  simpa using this

theorem getD_append_left {α : Type} {l m : List α} {i : Nat} {d : α} (h : i < l.length) : (l ++ m).getD i d = l.getD i d := by
  simp [List.getD_eq_getElem?_getD, List.getElem?_append_left h]

theorem word4_cells (b0 b1 b2 b3 : B8) : bits .or .u32 (bits .or .u32 (bits .or .u32 (nb b0 * 16777216) (nb b1 * 65536)) (nb b2 * 256)) (nb b3) = nw (up b0 24 ||| up b1 16 ||| up b2 8 ||| b3.setWidth 32) := by
  have h0 := nb_bound b0
  have h1 := nb_bound b1
  have h2 := nb_bound b2
  have wr : ∀ n : Int, 0 ≤ n → n < 4294967296 → IntKind.u32.wrap n = n := by
    intro n h h'
    simp [IntKind.wrap, IntKind.signed, IntKind.bits]
    omega
  have e0 : nb b0 * 16777216 = nw (up b0 24) := by rw [← up_u32]; exact (wr _ (by omega) (by omega)).symm
  have e1 : nb b1 * 65536 = nw (up b1 16) := by rw [← up_u32]; exact (wr _ (by omega) (by omega)).symm
  have e2 : nb b2 * 256 = nw (up b2 8) := by rw [← up_u32]; exact (wr _ (by omega) (by omega)).symm
  rw [e0, e1, e2, wide_u32 b3, or_u32, or_u32, or_u32]

theorem own_step {w : World} {B k : Nat} {t : TypeId} {bs : List B8} (h : Blk w B t (part (own16 bs k))) (hk : k < 16) (b0 b1 b2 b3 : B8) (e : word4 bs k = up b0 24 ||| up b1 16 ||| up b2 8 ||| b3.setWidth 32) :
    Blk (w.drew.setCell ⟨B, k, none⟩ (.int .u32 (bits .or .u32 (bits .or .u32 (bits .or .u32 (nb b0 * 16777216) (nb b1 * 65536)) (nb b2 * 256)) (nb b3)))) B t (part (own16 bs (k + 1))) := by
  have hlk := own16_length bs k
  have hps := part_set (l := own16 bs k) (by omega) (word4 bs k)
  rw [hlk, e] at hps
  have := h.drew.set_ k (.int .u32 (nw (up b0 24 ||| up b1 16 ||| up b2 8 ||| b3.setWidth 32)))
  rw [hps] at this
  rw [word4_cells, own16, e]
  exact this
theorem more_step {w : World} {B k : Nat} {t : TypeId} {l : List B32} (h : Blk w B t (part (more l k))) (hl : l.length = 16) (hk : k < 48) (x16 x15 x7 x2 : B32) (e : nextW (more l k) = x16 + far x15 + x7 + near x2) :
    Blk (w.setCell ⟨B, 16 + k, none⟩ (.int .u32 (nw (x16 + (rr x15 7 ^^^ rr x15 18 ^^^ x15 >>> 3) + x7 + (rr x2 17 ^^^ rr x2 19 ^^^ x2 >>> 10))))).drew.drew B t (part (more l (k + 1))) := by
  have hlk := more_length l k
  rw [hl] at hlk
  have hps := part_set (l := more l k) (by omega) (nextW (more l k))
  rw [hlk] at hps
  have := (h.set_ (16 + k) (.int .u32 (nw (nextW (more l k))))).drew.drew
  rw [hps] at this
  rw [e] at this
  rw [more, e]
  exact this

theorem rot_7 (w : World) (x : B32) : Calls Tryd.prog 40 #[.int .u32 (nw x), .int .i64 (-7)] w fun e w' => e = .returned (.int .u32 (nw (rr x 7))) ∧ w = w' := rot_right w x 7 (by omega)
theorem rot_18 (w : World) (x : B32) : Calls Tryd.prog 40 #[.int .u32 (nw x), .int .i64 (-18)] w fun e w' => e = .returned (.int .u32 (nw (rr x 18))) ∧ w = w' := rot_right w x 18 (by omega)
theorem rot_17 (w : World) (x : B32) : Calls Tryd.prog 40 #[.int .u32 (nw x), .int .i64 (-17)] w fun e w' => e = .returned (.int .u32 (nw (rr x 17))) ∧ w = w' := rot_right w x 17 (by omega)
theorem rot_19 (w : World) (x : B32) : Calls Tryd.prog 40 #[.int .u32 (nw x), .int .i64 (-19)] w fun e w' => e = .returned (.int .u32 (nw (rr x 19))) ∧ w = w' := rot_right w x 19 (by omega)

set_option maxHeartbeats 1000000 in
set_option maxRecDepth 100000 in
theorem spread_any (w : World) (g o c : Nat) (bs : List B8) (hcells : ∀ j, j < 64 → w.cell? ⟨g, o + j, none⟩ = some (.int .u8 (nb (bs.getD j 0)))) :
    Calls Tryd.prog 36 #[.slice (some ⟨g, o, none⟩) 64 c] w fun e w' => e = .returned (.agg (Wd (sched bs)).toArray) ∧ Below w.heap.size w w' := by
  have hg : g < w.heap.size := World.block_lt_of_cell? w _ (hcells 0 (by omega))
  have HC := Lib.hid hcells
  clear hcells
  go_enter Tryd.func36, Tryd.ntmps36
  go_wp2_with fail
  go_loopw [8] (fun i wr => ∃ k : Nat, k ≤ 16 ∧ i = .int .i64 k ∧ Blk wr (w.heap.size + 1) 74 (part (own16 bs k)) ∧ Blk wr w.heap.size 74 (List.replicate 64 (.int .u32 0)) ∧ Below w.heap.size w wr) (fun i _ => 16 - (intOf i).toNat)
  case atStart => exact ⟨0, by omega, rfl, blk_two w 74 74 (List.replicate 64 (.int .u32 0)) (List.replicate 64 (.int .u32 0)), (Blk.new w 74 (List.replicate 64 (.int .u32 0))).alloc _, ((Below.refl _ _).alloc (Nat.le_refl _) _).alloc (by simp) _⟩
  case round =>
    obtain ⟨k, hk, rfl, hb1, hb0, hnx⟩ := hrel
    go_wp2_with fail
    · have hk16 : k < 16 := by omega
      have f0 : wr.cell? ⟨g, o + 4 * k, none⟩ = some (.int .u8 (nb (bs.getD (4 * k) 0))) := (hnx.cell hg).trans (HC.out _ (by omega))
      have f1 : wr.cell? ⟨g, o + (4 * k + 1), none⟩ = some (.int .u8 (nb (bs.getD (4 * k + 1) 0))) := (hnx.cell hg).trans (HC.out _ (by omega))
      have f2 : wr.cell? ⟨g, o + (4 * k + 2), none⟩ = some (.int .u8 (nb (bs.getD (4 * k + 2) 0))) := (hnx.cell hg).trans (HC.out _ (by omega))
      have f3 : wr.cell? ⟨g, o + (4 * k + 3), none⟩ = some (.int .u8 (nb (bs.getD (4 * k + 3) 0))) := (hnx.cell hg).trans (HC.out _ (by omega))
      have hlk := own16_length bs k
      have e0 := Lib.hid (word4_eq bs k)
      generalize bs.getD (4 * k) 0 = b0 at f0 e0
      generalize bs.getD (4 * k + 1) 0 = b1 at f1 e0
      generalize bs.getD (4 * k + 2) 0 = b2 at f2 e0
      generalize bs.getD (4 * k + 3) 0 = b3 at f3 e0
      have n0 := nb_bound b0
      have n1 := nb_bound b1
      have n2 := nb_bound b2
      have n3 := nb_bound b3
      have hfz := hb1.frozen k
      have hz : wr.cell? ⟨w.heap.size + 1, k, none⟩ = some (.int .u32 0) := by
        rw [hb1.cell]
        have := part_next (l := own16 bs k) (by omega)
        rwa [hlk] at this
      have HB1 := Lib.hid hb1
      have HB0 := Lib.hid hb0
      have HN := Lib.hid hnx
      clear hb1 hb0 hnx
      go_region
      all_goals go_wp2
      all_goals go_roundw
      case rel =>
        refine ⟨k + 1, by omega, by go_num, ?_, ?_, ?_⟩
        · exact own_step HB1.out hk16 b0 b1 b2 b3 e0
        · exact (HB0.out.drew).far (p := ⟨w.heap.size + 1, _, none⟩) (by simp) _
        · exact HN.out.drew.setCell (p := ⟨w.heap.size + 1, _, none⟩) (by simp) _
      case measure => simp [intOf]; omega
    · have hd16 : decide ((k : Int) < 16) = false := decide_eq_false (by omega)
      rw [hd16]
      rw [show k = 16 by omega] at hb1
      clear hd16
      go_loopw [5] (fun i wr => ∃ k : Nat, k ≤ 48 ∧ i = .int .i64 (16 + k) ∧ Blk wr (w.heap.size + 1) 74 (part (more (own16 bs 16) k)) ∧ Blk wr w.heap.size 74 (List.replicate 64 (.int .u32 0)) ∧ Below w.heap.size w wr) (fun i _ => 64 - (intOf i).toNat)
      case atStart => exact ⟨0, by omega, rfl, hb1, hb0, hnx⟩
      case round =>
        clear hb1 hb0 hnx
        obtain ⟨k, hk, rfl, hb1, hb0, hnx⟩ := hrel
        have hlm := more_length (own16 bs 16) k
        rw [own16_length] at hlm
        have hd : more (own16 bs 16) (k + 1) = more (own16 bs 16) k ++ [nextW (more (own16 bs 16) k)] := rfl
        have hpl : (part (more (own16 bs 16) k)).length = 64 := part_length (by omega)
        go_wp2_with (first
          | (refine wpList_load_mid rfl 74 (.tmp 3) rfl (w.heap.size + 1) 0 rfl _ _ hb1.range Tryd.underlying74 rfl (info74.trans (by rw [hpl])) ?_)
          | (refine wpList_store_mid rfl 74 (.tmp 2) (.tmp 90) rfl w.heap.size 0 _ rfl rfl (hb0.there (by simp [hpl])) (info74.trans (by simp [hpl])) (all_oneCell_toArray (part_oneCell _)) ?_))
        · have hk48 : k < 48 := by omega
          have hg16 := part_get (l := more (own16 bs 16) k) (i := 16 + k - 16) (by omega)
          have hg15 := part_get (l := more (own16 bs 16) k) (i := 16 + k - 15) (by omega)
          have hg7 := part_get (l := more (own16 bs 16) k) (i := 16 + k - 7) (by omega)
          have hg2 := part_get (l := more (own16 bs 16) k) (i := 16 + k - 2) (by omega)
          have hz := part_next (l := more (own16 bs 16) k) (by omega)
          rw [show 16 + k - 16 = k by omega] at hg16
          rw [← hb1.cell] at hg16 hg15 hg7 hg2 hz
          rw [hlm] at hz
          have hN : nextW (more (own16 bs 16) k) = (more (own16 bs 16) k).getD k 0 + far ((more (own16 bs 16) k).getD (16 + k - 15) 0) + (more (own16 bs 16) k).getD (16 + k - 7) 0 + near ((more (own16 bs 16) k).getD (16 + k - 2) 0) := by
            unfold nextW
            rw [hlm, show 16 + k - 16 = k by omega]
          have hfz := hb1.frozen (16 + k)
          have hps := part_set (l := more (own16 bs 16) k) (by omega) (nextW (more (own16 bs 16) k))
          rw [hN, hlm] at hps
          have HD := Lib.hid hd
          have HP := Lib.hid hps
          have HN := Lib.hid hN
          have HB1 := Lib.hid hb1
          have HB0 := Lib.hid hb0
          have HX := Lib.hid hnx
          clear hd hps hN hb1 hb0 hnx hpl
          generalize (more (own16 bs 16) k).getD k 0 = x16 at hg16 HN HP
          generalize (more (own16 bs 16) k).getD (16 + k - 15) 0 = x15 at hg15 HN HP
          generalize (more (own16 bs 16) k).getD (16 + k - 7) 0 = x7 at hg7 HN HP
          generalize (more (own16 bs 16) k).getD (16 + k - 2) 0 = x2 at hg2 HN HP
          have n15 := nw_bound x15
          have n2 := nw_bound x2
          go_region
          all_goals go_wp2_with (first
            | (go_at_call 40; with_reducible refine (rot_7 _ x15).mono ?_; rintro e w' ⟨rfl, rfl⟩)
            | (go_at_call 40; with_reducible refine (rot_18 _ x15).mono ?_; rintro e w' ⟨rfl, rfl⟩)
            | (go_at_call 40; with_reducible refine (rot_17 _ x2).mono ?_; rintro e w' ⟨rfl, rfl⟩)
            | (go_at_call 40; with_reducible refine (rot_19 _ x2).mono ?_; rintro e w' ⟨rfl, rfl⟩))
          all_goals go_region
          all_goals go_wp2
          all_goals go_roundw
          case rel =>
            refine ⟨k + 1, by omega, by go_num, ?_, ?_, ?_⟩
            · exact more_step HB1.out (own16_length bs 16) hk48 x16 x15 x7 x2 HN.out
            · exact (HB0.out.drew.drew).far (p := ⟨w.heap.size + 1, _, none⟩) (by simp) _
            · exact HX.out.drew.drew.setCell (p := ⟨w.heap.size + 1, _, none⟩) (by simp) _
          case measure => simp [intOf]; omega
        · obtain rfl : k = 48 := by omega
          have hb := hb0.setCells (part (more (own16 bs 16) 48)) 0 (by simp [hpl])
          have ho : over (List.replicate 64 (Value.int .u32 0)) 0 (part (more (own16 bs 16) 48)) = Wd (sched bs) := by
            unfold over
            rw [List.take_zero, List.drop_eq_nil_of_le (by simp [hpl]), part_whole _ (by rw [hlm])]
            simp [sched]
          rw [ho] at hb
          refine bodyPost_ret (v := .agg (Wd (sched bs)).toArray) ?_ rfl ⟨rfl, ?_⟩
          · exact ret_cell rfl rfl (run_loadVar_mid _ _ 0 74 _ _ hb.range Tryd.underlying74 rfl (info74.trans (by simp [Wd_length, sched_length])))
          · exact (Only.setCells _ _ _ (S := []) (a := w) (Only.of_below hnx) (.inr (Nat.le_refl _))).below (Nat.le_refl _) (by simp)

end Go.Proofs.YtkblpcegdfhmoaaDoor
