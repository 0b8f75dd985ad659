/-
  turn: a block brought into the words. Conditions: the stream's block is known; 64 bytes, each cell there; the constants lie in their variable.
-/
import Derived.Test.YtkblpcegdfhmoaaDoorDTurnSpec
namespace Go.Proofs.YtkblpcegdfhmoaaDoor
open Go.RowKit

attribute [local go_sem] add_u32 xor_u32 and_u32 or_u32 not_u32 shl_u32 shr_u32 div_u32 div_8 div_3 div_16 div_10 div_24

theorem ar1 (w : World) (x : B32) : Calls Tryd.prog 37 #[.int .u32 (nw x), .int .i64 6, .int .i64 11, .int .i64 25] w fun e w' => e = .returned (.int .u32 (nw (rr x 6 ^^^ rr x 11 ^^^ rr x 25))) ∧ w = w' := around_any w x 6 11 25 (by omega) (by omega) (by omega)
theorem ar1q (w : World) (x : B32) : Calls Tryd.prog 37 #[.int .u32 (nw x), .int .i64 6, .int .i64 11, .int .i64 25] w fun e w' => e = .returned (.int .u32 (nw (rr x 6 ^^^ rr x 11 ^^^ rr x 25))) ∧ w' = w := (ar1 w x).mono fun _ _ h => ⟨h.1, h.2.symm⟩
theorem chosenq (w : World) (x y z : B32) : Calls Tryd.prog 38 #[.int .u32 (nw x), .int .u32 (nw y), .int .u32 (nw z)] w fun e w' => e = .returned (.int .u32 (nw ((x &&& y) ^^^ (~~~x &&& z)))) ∧ w' = w := (chosen_any w x y z).mono fun _ _ h => ⟨h.1, h.2.symm⟩
theorem ar2 (w : World) (x : B32) : Calls Tryd.prog 37 #[.int .u32 (nw x), .int .i64 2, .int .i64 13, .int .i64 22] w fun e w' => e = .returned (.int .u32 (nw (rr x 2 ^^^ rr x 13 ^^^ rr x 22))) ∧ w = w' := around_any w x 2 13 22 (by omega) (by omega) (by omega)

theorem index8 (t : S8) (j : Nat) (hj : j < 8) (W : World) : (Instr.index 40 (.agg #[.int .u32 (nw t.a), .int .u32 (nw t.b), .int .u32 (nw t.c), .int .u32 (nw t.d), .int .u32 (nw t.e), .int .u32 (nw t.f), .int .u32 (nw t.g), .int .u32 (nw t.h)]) (.int .i64 j)).run Tryd.prog W = .ok (.int .u32 (nw (t.list.getD j 0))) W := by
  match j, hj with
  | 0, _ => exact (by kernel_rfl : (Instr.index 40 (.agg #[.int .u32 (nw t.a), .int .u32 (nw t.b), .int .u32 (nw t.c), .int .u32 (nw t.d), .int .u32 (nw t.e), .int .u32 (nw t.f), .int .u32 (nw t.g), .int .u32 (nw t.h)]) (.int .i64 0)).run Tryd.prog W = .ok (.int .u32 (nw t.a)) W)
  | 1, _ => exact (by kernel_rfl : (Instr.index 40 (.agg #[.int .u32 (nw t.a), .int .u32 (nw t.b), .int .u32 (nw t.c), .int .u32 (nw t.d), .int .u32 (nw t.e), .int .u32 (nw t.f), .int .u32 (nw t.g), .int .u32 (nw t.h)]) (.int .i64 1)).run Tryd.prog W = .ok (.int .u32 (nw t.b)) W)
  | 2, _ => exact (by kernel_rfl : (Instr.index 40 (.agg #[.int .u32 (nw t.a), .int .u32 (nw t.b), .int .u32 (nw t.c), .int .u32 (nw t.d), .int .u32 (nw t.e), .int .u32 (nw t.f), .int .u32 (nw t.g), .int .u32 (nw t.h)]) (.int .i64 2)).run Tryd.prog W = .ok (.int .u32 (nw t.c)) W)
  | 3, _ => exact (by kernel_rfl : (Instr.index 40 (.agg #[.int .u32 (nw t.a), .int .u32 (nw t.b), .int .u32 (nw t.c), .int .u32 (nw t.d), .int .u32 (nw t.e), .int .u32 (nw t.f), .int .u32 (nw t.g), .int .u32 (nw t.h)]) (.int .i64 3)).run Tryd.prog W = .ok (.int .u32 (nw t.d)) W)
  | 4, _ => exact (by kernel_rfl : (Instr.index 40 (.agg #[.int .u32 (nw t.a), .int .u32 (nw t.b), .int .u32 (nw t.c), .int .u32 (nw t.d), .int .u32 (nw t.e), .int .u32 (nw t.f), .int .u32 (nw t.g), .int .u32 (nw t.h)]) (.int .i64 4)).run Tryd.prog W = .ok (.int .u32 (nw t.e)) W)
  | 5, _ => exact (by kernel_rfl : (Instr.index 40 (.agg #[.int .u32 (nw t.a), .int .u32 (nw t.b), .int .u32 (nw t.c), .int .u32 (nw t.d), .int .u32 (nw t.e), .int .u32 (nw t.f), .int .u32 (nw t.g), .int .u32 (nw t.h)]) (.int .i64 5)).run Tryd.prog W = .ok (.int .u32 (nw t.f)) W)
  | 6, _ => exact (by kernel_rfl : (Instr.index 40 (.agg #[.int .u32 (nw t.a), .int .u32 (nw t.b), .int .u32 (nw t.c), .int .u32 (nw t.d), .int .u32 (nw t.e), .int .u32 (nw t.f), .int .u32 (nw t.g), .int .u32 (nw t.h)]) (.int .i64 6)).run Tryd.prog W = .ok (.int .u32 (nw t.g)) W)
  | 7, _ => exact (by kernel_rfl : (Instr.index 40 (.agg #[.int .u32 (nw t.a), .int .u32 (nw t.b), .int .u32 (nw t.c), .int .u32 (nw t.d), .int .u32 (nw t.e), .int .u32 (nw t.f), .int .u32 (nw t.g), .int .u32 (nw t.h)]) (.int .i64 7)).run Tryd.prog W = .ok (.int .u32 (nw t.h)) W)
theorem mix_step {w : World} {p j : Nat} {s t : S8} {tl : List Value} (h : Blk w p 44 (Wd (mix8 s t j) ++ tl)) (hj : j < 8) : Blk (w.setCell ⟨p, j, none⟩ (.int .u32 (nw (s.list.getD j 0 + t.list.getD j 0)))) p 44 (Wd (mix8 s t (j + 1)) ++ tl) := by
  have hl := mix8_length s t (k := j) (by omega)
  have := h.set_ j (.int .u32 (nw (s.list.getD j 0 + t.list.getD j 0)))
  rw [List.set_append_left _ _ (by rw [Wd_length]; omega)] at this
  have e : (Wd (mix8 s t j)).set j (.int .u32 (nw (s.list.getD j 0 + t.list.getD j 0))) = Wd (mix8 s t (j + 1)) := by
    rw [← mix8_set s t hj]
    unfold Wd
    rw [List.map_set]
  rw [e] at this
  exact this
theorem mix_cell {w : World} {p j : Nat} {s t : S8} {tl : List Value} (h : Blk w p 44 (Wd (mix8 s t j) ++ tl)) (hj : j < 8) : w.cell? ⟨p, j, none⟩ = some (.int .u32 (nw (s.list.getD j 0))) := by
  have hl := mix8_length s t (k := j) (by omega)
  rw [h.cell, List.getElem?_append_left (by rw [Wd_length]; omega), Wd_get, mix8_get s t hj]
  rfl

set_option maxHeartbeats 1000000 in
set_option maxRecDepth 100000 in
theorem turn_any (ks : List B32) (w : World) (p g o c : Nat) (s : S8) (tl : List Value) (bs : List B8) (hp : 0 < p) (hK : Roots ks w) (hb : Blk w p 44 (Wd s.list ++ tl)) (hcells : ∀ j, j < 64 → w.cell? ⟨g, o + j, none⟩ = some (.int .u8 (nb (bs.getD j 0)))) :
    Calls Tryd.prog 35 #[.pointer (some ⟨p, 0, none⟩), .slice (some ⟨g, o, none⟩) 64 c] w fun e w' => e = .returned (.tuple #[]) ∧ Blk w' p 44 (Wd (turn8 ks s bs).list ++ tl) ∧ Only [p] w w' := by
  have hpl := hb.lt
  go_enter Tryd.func35, Tryd.ntmps35
  go_wp2_with fail
  refine (spread_any w g o c bs hcells).mono ?_
  rintro e w1 ⟨rfl, h1⟩
  have hK1 := hK.below h1 hK.pos
  have hb1 := hb.below h1 hpl
  have hs1 := h1.size
  have HC := Lib.hid hcells
  have H1 := Lib.hid h1
  have HB := Lib.hid hb
  have HK := Lib.hid hK
  have HK1 := Lib.hid hK1
  clear hcells h1 hb hK hK1
  have HB1 := Lib.hid hb1
  clear hb1
  go_wp2_with (refine wpList_store_blk rfl 74 (.tmp 4) (.tmp 19) rfl w1.heap.size 0 (Wd (sched bs)) rfl rfl (Blk.new w1 74 (List.replicate 64 (.int .u32 0))) (by simp [Wd_length, sched_length]) (info74.trans (by simp [Wd_length, sched_length])) (Wd_oneCell _) ?_; intro W2 hA hO)
  rw [over_whole (by simp [Wd_length, sched_length])] at hA
  have hO2 : Below w.heap.size w W2 := H1.out.trans (((Below.refl _ _).alloc (Nat.le_refl _) _).trans ((hO.below (B := w1.heap.size) (by simp) (by simp)))|>.mono hs1)
  have hK2 := HK.out.below hO2 (by omega)
  have hb2 := HB.out.below hO2 hpl
  have hpA : p < w1.heap.size := by omega
  have c0 := hb2.cell 0
  have c1 := hb2.cell 1
  have c2 := hb2.cell 2
  have c3 := hb2.cell 3
  have c4 := hb2.cell 4
  have c5 := hb2.cell 5
  have c6 := hb2.cell 6
  have c7 := hb2.cell 7
  simp only [Wd, S8.list, List.map_cons, List.map_nil, List.cons_append, List.getElem?_cons_zero, List.getElem?_cons_succ] at c0 c1 c2 c3 c4 c5 c6 c7
  have HB2 := Lib.hid hb2
  have HA := Lib.hid hA
  have HO2 := Lib.hid hO2
  have HK2 := Lib.hid hK2
  clear hb2 hA hO2 hK2 HB1 H1 HK1 hO HC
  go_quiet (fail)
  clear c0 c1 c2 c3 c4 c5 c6 c7
  go_wp2
  go_loopw [52, 5, 6, 7, 8, 9, 10, 11, 12] (fun i va vb vc vd ve vf vg vh wr => ∃ k : Nat, k ≤ 64 ∧ i = .int .i64 k ∧ va = .int .u32 (nw (steps8 ks (sched bs) s k).a) ∧ vb = .int .u32 (nw (steps8 ks (sched bs) s k).b) ∧ vc = .int .u32 (nw (steps8 ks (sched bs) s k).c) ∧ vd = .int .u32 (nw (steps8 ks (sched bs) s k).d) ∧
      ve = .int .u32 (nw (steps8 ks (sched bs) s k).e) ∧ vf = .int .u32 (nw (steps8 ks (sched bs) s k).f) ∧ vg = .int .u32 (nw (steps8 ks (sched bs) s k).g) ∧ vh = .int .u32 (nw (steps8 ks (sched bs) s k).h) ∧ ∃ n, wr = W2.drewN n) (fun i _ _ _ _ _ _ _ _ _ => 64 - (intOf i).toNat)
  case atStart => exact ⟨0, by omega, rfl, rfl, rfl, rfl, rfl, rfl, rfl, rfl, rfl, nq, rfl⟩
  case round =>
    obtain ⟨k, hk, rfl, rfl, rfl, rfl, rfl, rfl, rfl, rfl, rfl, n, rfl⟩ := hrel
    have hS : steps8 ks (sched bs) s (k + 1) = step8 (steps8 ks (sched bs) s k) (ks.getD k 0) ((sched bs).getD k 0) := rfl
    have HS := Lib.hid hS
    clear hS
    go_wp2_with fail
    · have hk64 : (k : Int) < 64 := by omega
      have hk0 : (0 : Int) ≤ (k : Int) := by omega
      have f0 : W2.cell? ⟨0, k, none⟩ = some (.int .u32 (nw (ks.getD k 0))) := HK2.out k (by omega)
      have f1 : W2.cell? ⟨w1.heap.size, k, none⟩ = some (.int .u32 (nw ((sched bs).getD k 0))) := by
        refine (HA.out.cell k).trans ?_
        rw [Wd_get, List.getD_eq_getElem?_getD, List.getElem?_eq_getElem (by rw [sched_length]; omega)]
        rfl
      generalize ks.getD k 0 = kc at f0 HS
      generalize (sched bs).getD k 0 = wc at f1 HS
      generalize steps8 ks (sched bs) s k = t at HS
      go_quiet (first
        | (go_at_call 37; exact (ar1q _ _).mono fun _ _ h => ⟨h.1, _, h.2⟩)
        | (go_at_call 38; exact (chosenq _ _ _ _).mono fun _ _ h => ⟨h.1, _, h.2⟩))
      clear f0 f1
      go_wp2_with (first
        | (go_at_call 37; with_reducible refine (ar2 _ _).mono ?_; rintro e w' ⟨rfl, rfl⟩)
        | (go_at_call 39; with_reducible refine (most_any _ _ _ _).mono ?_; rintro e w' ⟨rfl, rfl⟩))
      go_roundw
      case rel =>
        refine ⟨k + 1, by omega, by go_num, ?_, ?_, ?_, ?_, ?_, ?_, ?_, ?_, ?_⟩
        · rw [HS.out]; rfl
        · rw [HS.out]; rfl
        · rw [HS.out]; rfl
        · rw [HS.out]; rfl
        · rw [HS.out]; rfl
        · rw [HS.out]; rfl
        · rw [HS.out]; rfl
        · rw [HS.out]; rfl
        · exact ⟨_, rfl⟩
      case measure => simp [intOf]; omega
    · have hd64 : decide ((k : Int) < 64) = false := decide_eq_false (by omega)
      rw [hd64]
      clear hd64
      obtain ⟨t, ht⟩ : ∃ t, t = steps8 ks (sched bs) s 64 := ⟨_, rfl⟩
      rw [show k = 64 by omega, ← ht]
      have HT := Lib.hid ht
      clear ht HS
      go_loopw [101] (fun i wr => ∃ j : Nat, j ≤ 8 ∧ i = .int .i64 j ∧ Blk wr p 44 (Wd (mix8 s t j) ++ tl) ∧ Only [p] W2 wr) (fun i _ => 8 - (intOf i).toNat)
      case atStart => exact ⟨0, by omega, rfl, HB2.out.drewN n, (Only.refl _ _).drewN n⟩
      case round =>
        obtain ⟨j, hj, rfl, hbj, hoj⟩ := hrel
        by_cases hj8 : j < 8
        · have hix := index8 t j hj8 wr
          have hmc := mix_cell hbj hj8
          have hfz := hbj.frozen j
          have hms := mix_step hbj hj8
          generalize s.list.getD j 0 = x at hmc hms
          generalize t.list.getD j 0 = y at hix hms
          have HMS := Lib.hid hms
          have HOJ := Lib.hid hoj
          clear hbj hoj hms
          go_wp2_with fail
          go_region
          all_goals go_wp2
          all_goals go_roundw
          case rel => exact ⟨j + 1, by omega, by go_num, HMS.out.drew, (HOJ.out.drew.setCell (p := ⟨p, j, none⟩) (.inl (by simp)) _)⟩
          case measure => simp [intOf]; omega
        · obtain rfl : j = 8 := by omega
          have HBJ := Lib.hid hbj
          have HOJ := Lib.hid hoj
          clear hbj hoj
          go_wp2
          go_end0
          refine ⟨rfl, ?_, ?_⟩
          · have e : mix8 s t 8 = (turn8 ks s bs).list := by
              rw [HT.out]; rfl
            rw [← e]
            exact HBJ.out
          · exact (Only.of_below HO2.out).trans HOJ.out

end Go.Proofs.YtkblpcegdfhmoaaDoor
