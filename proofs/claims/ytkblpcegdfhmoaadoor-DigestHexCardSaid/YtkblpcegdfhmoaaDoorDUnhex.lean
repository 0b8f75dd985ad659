/-
  Unhex. Condition: the text's length is a number of 63 bits.
-/
import Derived.Test.YtkblpcegdfhmoaaDoorDFour
namespace Go.Proofs.YtkblpcegdfhmoaaDoor
open Go.RowKit

theorem isSign_of {b : Bool} {c : B8} (h : isSign c = b) : isSign c = b := h
def zeros32 : List B8 := List.replicate 32 0#8
theorem zeros_cells : Vb zeros32 = List.replicate 32 (.int .u8 0) := by
  unfold zeros32 Vb
  rw [List.map_replicate]
  unfold nb
  rfl
theorem zero_one (n : Nat) : ∀ u ∈ List.replicate n (Value.int .u8 0), u.oneCell' = true := by
  intro u hu
  rw [(List.mem_replicate.1 hu).2]; rfl
theorem unhexR_bad {T : List B8} (h : ¬ GoodT T) : unhexR T = (zeros32, 3) := by unfold unhexR; rw [if_neg h]; rfl
theorem unhexR_good {T : List B8} (h : GoodT T) : unhexR T = (dec T 32, 0) := by unfold unhexR; rw [if_pos h]
theorem ret_two {P : Program} {fn : Func} {p q : Tmp} {ty : TypeId} (h : fn.results = #[.cell p ty, .tmp q]) {tmps : Array Value} {w : World} {a : Addr} {v : Value} (ht : tmps.getD p undef = .pointer (some a)) (hl : (loadVar ty a).run P w = .ok v w) :
    (results fn tmps).run P w = .ok (.tuple #[v, tmps.getD q undef]) w := by
  rw [results_cell_tmp h]
  rw [ht]
  simp [asAddr, Result.andThen, hl]

attribute [local go_sem] or_u8 shl4_u8

set_option maxHeartbeats 400000 in
set_option maxRecDepth 100000 in
theorem unhex_any (w : World) (T : List B8) : Calls Tryd.prog 20 #[strOf T] w fun e w' => e = .returned (.tuple #[.agg (Vb (unhexR T).1).toArray, .int .i64 (unhexR T).2]) ∧ Below w.heap.size w w' := by
  have hlen := str_len T
  by_cases h64 : T.length = 64
  · have hne : ((T.length : Int) != 64) = false := by rw [h64]; rfl
    go_enter Tryd.func20, Tryd.ntmps20
    go_wp2_with fail
    go_loopw [14] (fun i wr => ∃ k : Nat, k ≤ 32 ∧ i = .int .i64 k ∧ (∀ j, j < 2 * k → isSign (T.getD j 0#8) = true) ∧ Blk wr (w.heap.size + 1) 31 (partN 32 (dec T k)) ∧ Blk wr w.heap.size 31 (List.replicate 32 (.int .u8 0)) ∧ Below w.heap.size w wr) (fun i _ => 32 - (intOf i).toNat)
    case atStart => exact ⟨0, by omega, rfl, fun j h => absurd h (by omega), blk_two w 31 31 (List.replicate 32 (.int .u8 0)) (List.replicate 32 (.int .u8 0)), (Blk.new w 31 (List.replicate 32 (.int .u8 0))).alloc _, ((Below.refl _ _).alloc (Nat.le_refl _) _).alloc (by simp) _⟩
    case round =>
      obtain ⟨k, hk, rfl, hsig, hb1, hb0, hbel⟩ := hrel
      have hdl := dec_length T k
      by_cases hlt : k < 32
      · have hx1 := str_index T (2 * k) (by omega)
        have hx2 := str_index T (2 * k + 1) (by omega)
        rw [show ((2 * k : Nat) : Int) = 2 * (k : Int) by omega] at hx1
        rw [show ((2 * k + 1 : Nat) : Int) = 2 * (k : Int) + 1 by omega] at hx2
        have hdec : dec T (k + 1) = dec T k ++ [two4 (valB (T.getD (2 * k) 0#8)) (valB (T.getD (2 * k + 1) 0#8))] := rfl
        have z0 := partN_next (N := 32) (l := dec T k) (j := 0) (by omega)
        rw [hdl, Nat.add_zero, ← hb1.cell] at z0
        have f0 := hb1.frozen k
        have hset := partN_set (N := 32) (l := dec T k) (by omega) (two4 (valB (T.getD (2 * k) 0#8)) (valB (T.getD (2 * k + 1) 0#8)))
        rw [hdl] at hset
        obtain ⟨c1, hc1⟩ : ∃ c, c = T.getD (2 * k) 0#8 := ⟨_, rfl⟩
        obtain ⟨c2, hc2⟩ : ∃ c, c = T.getD (2 * k + 1) 0#8 := ⟨_, rfl⟩
        rw [← hc1, ← hc2] at hdec hset
        rw [← hc1] at hx1
        rw [← hc2] at hx2
        have HO := Lib.hid (And.intro hsig (And.intro hb1 (And.intro hb0 (And.intro hbel (And.intro hdec (And.intro hset (And.intro hc1 hc2)))))))
        clear hsig hb1 hb0 hbel hdec hset hc1 hc2
        by_cases hs : isSign c1 = true ∧ isSign c2 = true
        · obtain ⟨s1, s2⟩ := hs
          go_wp2_with (first
            | (go_at_call 30; with_reducible refine (four_any _ c1).mono ?_; rw [s1]; rintro e w' ⟨rfl, rfl⟩)
            | (go_at_call 30; with_reducible refine (four_any _ c2).mono ?_; rw [s2]; rintro e w' ⟨rfl, rfl⟩))
          go_roundw
          case rel =>
            obtain ⟨hsig, hb1, hb0, hbel, hdec, hset, hc1, hc2⟩ := HO.out
            refine ⟨k + 1, by omega, by go_num, ?_, ?_, ?_, ?_⟩
            · intro j hj
              by_cases h1 : j < 2 * k
              · exact hsig j h1
              · by_cases h2 : j = 2 * k
                · rw [h2, ← hc1]; exact s1
                · rw [show j = 2 * k + 1 by omega, ← hc2]; exact s2
            · rw [hdec, ← hset]
              exact hb1.set_ k _
            · exact hb0.far (p := ⟨w.heap.size + 1, _, none⟩) (by simp) _
            · exact hbel.setCell (p := ⟨w.heap.size + 1, _, none⟩) (by simp) _
          case measure => simp [intOf]; omega
        · have hbad : ¬ GoodT T := by
            intro hg
            obtain ⟨hsig, hb1, hb0, hbel, hdec, hset, hc1, hc2⟩ := HO.out
            exact hs ⟨by rw [hc1]; exact hg.2 _ (by omega), by rw [hc2]; exact hg.2 _ (by omega)⟩
          have hfin : ∀ w2, Blk w2 w.heap.size 31 (List.replicate 32 (.int .u8 0)) → Only [w.heap.size] wr w2 → Below w.heap.size w w2 := fun w2 _ ho => HO.out.2.2.2.1.trans (ho.below (B := w.heap.size) HO.out.2.2.2.1.size (by simp))
          cases s1 : isSign c1 with
          | false =>
            go_wp2_with (first
              | (go_at_call 30; with_reducible refine (four_any _ c1).mono ?_; rw [s1]; rintro e w' ⟨rfl, rfl⟩)
              | (go_at_call 30; with_reducible refine (four_any _ c2).mono ?_; rintro e w' ⟨rfl, rfl⟩)
              | (refine wpList_store_blk rfl 31 (.tmp 2) (.tmp 40) rfl w.heap.size 0 (List.replicate 32 (.int .u8 0)) rfl rfl HO.out.2.2.1 (by simp) info31 (zero_one 32) ?_; intro w2 hA hO))
            rw [over_whole rfl] at hA
            exact bodyPost_ret (ret_two rfl rfl (run_loadVar_mid _ _ 0 31 _ _ hA.range Tryd.underlying31 rfl info31)) rfl ⟨by rw [unhexR_bad hbad, zeros_cells]; rfl, hfin _ hA hO⟩
          | true =>
            have s2 : isSign c2 = false := by
              cases h : isSign c2 with
              | false => rfl
              | true => exact absurd ⟨s1, h⟩ hs
            go_wp2_with (first
              | (go_at_call 30; with_reducible refine (four_any _ c1).mono ?_; rw [s1]; rintro e w' ⟨rfl, rfl⟩)
              | (go_at_call 30; with_reducible refine (four_any _ c2).mono ?_; rw [s2]; rintro e w' ⟨rfl, rfl⟩)
              | (refine wpList_store_blk rfl 31 (.tmp 2) (.tmp 40) rfl w.heap.size 0 (List.replicate 32 (.int .u8 0)) rfl rfl HO.out.2.2.1 (by simp) info31 (zero_one 32) ?_; intro w2 hA hO))
            rw [over_whole rfl] at hA
            exact bodyPost_ret (ret_two rfl rfl (run_loadVar_mid _ _ 0 31 _ _ hA.range Tryd.underlying31 rfl info31)) rfl ⟨by rw [unhexR_bad hbad, zeros_cells]; rfl, hfin _ hA hO⟩
      · obtain rfl : k = 32 := by omega
        have hgood : GoodT T := ⟨h64, fun j hj => hsig j (by omega)⟩
        rw [partN_whole _ hdl] at hb1
        have HO := Lib.hid (And.intro hb1 (And.intro hb0 hbel))
        clear hsig hb1 hb0 hbel
        go_wp2_with (first
          | (refine wpList_load_mid rfl 31 (.tmp 4) rfl (w.heap.size + 1) 0 rfl _ _ HO.out.1.range Tryd.underlying31 rfl (info31.trans (by rw [Vb_length, hdl])) ?_)
          | (refine wpList_store_blk rfl 31 (.tmp 2) (.tmp 48) rfl w.heap.size 0 (Vb (dec T 32)) rfl rfl HO.out.2.1 (by simp [Vb_length, hdl]) (info31.trans (by rw [Vb_length, hdl])) (Vb_oneCell _) ?_; intro w2 hA hO))
        rw [over_whole (by simp [Vb_length, hdl])] at hA
        exact bodyPost_ret (ret_two rfl rfl (run_loadVar_mid _ _ 0 31 _ _ hA.range Tryd.underlying31 rfl (info31.trans (by rw [Vb_length, hdl])))) rfl ⟨by rw [unhexR_good hgood]; rfl, HO.out.2.2.trans (hO.below (B := w.heap.size) HO.out.2.2.size (by simp))⟩
  · have hne : ((T.length : Int) != 64) = true := by simp; omega
    rw [unhexR_bad (fun h => h64 h.1), zeros_cells]
    go_enter Tryd.func20, Tryd.ntmps20
    go_wp2_with (refine wpList_store_blk rfl 31 (.tmp 2) (.tmp 13) rfl w.heap.size 0 (List.replicate 32 (.int .u8 0)) rfl rfl (Blk.new w 31 (List.replicate 32 (.int .u8 0))) (by simp) info31 (zero_one 32) ?_; intro w2 hA hO)
    rw [over_whole rfl] at hA
    refine bodyPost_ret (ret_two rfl rfl (run_loadVar_mid _ _ 0 31 _ _ hA.range Tryd.underlying31 rfl info31)) rfl ⟨rfl, ?_⟩
    exact ((Below.refl _ _).alloc (Nat.le_refl _) _).trans (hO.below (B := w.heap.size) (by simp) (by simp))

end Go.Proofs.YtkblpcegdfhmoaaDoor
