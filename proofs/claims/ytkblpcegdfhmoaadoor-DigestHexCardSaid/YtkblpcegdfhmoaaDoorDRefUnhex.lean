/-
  The document's own Unhex. No condition.
-/
import Derived.Test.YtkblpcegdfhmoaaDoorDRefHex
namespace Go.Proofs.YtkblpcegdfhmoaaDoor
open Go.RowKit

def updJ (x c : B8) (j : Nat) : B8 := if isSign c = true ∧ (valB c).toNat < j then upd x c else x
theorem updJ_zero (x c : B8) : updJ x c 0 = x := by unfold updJ; rw [if_neg (by omega)]
theorem updJ_all (x c : B8) : updJ x c 16 = upd x c := by
  unfold updJ
  by_cases h : isSign c = true
  · rw [if_pos ⟨h, (sign_val c h).2⟩]
  · rw [if_neg (fun e => h e.1)]
    unfold upd
    rw [if_neg h]
theorem updJ_hit {x c : B8} {j : Nat} (hj : j < 16) (hc : c = sign j) : updJ x c j = x ∧ updJ x c (j + 1) = BitVec.ofNat 8 (16 * (x.toNat % 16) + j) := by
  obtain ⟨h1, h2⟩ := val_sign j hj
  have hv : (valB c).toNat = j := by rw [hc, h2, BitVec.toNat_ofNat]; omega
  have hs : isSign c = true := by rw [hc]; exact h1
  unfold updJ
  rw [if_neg (by omega), if_pos ⟨hs, by omega⟩]
  refine ⟨rfl, ?_⟩
  unfold upd
  rw [if_pos hs, hv]
theorem updJ_miss {x c : B8} {j : Nat} (hc : c ≠ sign j) : updJ x c (j + 1) = updJ x c j := by
  unfold updJ
  by_cases hs : isSign c = true
  · have hne : (valB c).toNat ≠ j := fun e => hc (by rw [← (sign_val c hs).1, e])
    by_cases h : (valB c).toNat < j
    · rw [if_pos ⟨hs, Nat.lt_succ_of_lt h⟩, if_pos ⟨hs, h⟩]
    · rw [if_neg (by omega), if_neg (by omega)]
  · rw [if_neg (fun e => hs e.1), if_neg (fun e => hs e.1)]
theorem nb_of_nat (n : Nat) : nb (BitVec.ofNat 8 n) = ((n % 256 : Nat) : Int) := by
  unfold nb
  rw [BitVec.toNat_ofNat]
theorem set_same (l : List B8) {i : Nat} (hi : i < l.length) : l.set i (l.getD i 0#8) = l := by
  apply List.ext_getElem?
  intro j
  by_cases h : i = j
  · subst h
    rw [List.getElem?_set_self hi, List.getD_eq_getElem?_getD, List.getElem?_eq_getElem hi]
    rfl
  · rw [List.getElem?_set_ne h]
theorem put_val (x : B8) (j : Nat) (hj : j < 16) : 16 * (nb x % 16) + (j : Int) = nb (BitVec.ofNat 8 (16 * (x.toNat % 16) + j)) := by
  rw [nb_of_nat, nb_nat]
  have := x.isLt
  omega

theorem str_guard (op : BinOp) (t : TypeId) (x y : Operand) (A B : List B8) (W : World) : (eqGuard op t x y (strOf A) (strOf B)).run Tryd.prog W = .ok () W := by
  unfold strOf
  cases op <;> simp [eqGuard]
theorem strBA_toList (A : List B8) : (strBA A).toList = A.map UInt8.ofBitVec := by
  rw [ByteArray.toList_eq]
  simp [strBA]
theorem str_beq (A B : List B8) : ((strBA A).toList == (strBA B).toList) = decide (A = B) := by
  rw [strBA_toList, strBA_toList, Bool.eq_iff_iff, beq_iff_eq, decide_eq_true_eq]
  exact List.map_inj_right (fun a b h => by injection h)
theorem str_neq (t : TypeId) (A B : List B8) (W : World) : (binOp .neq t (strOf A) (strOf B)).run Tryd.prog W = .ok (.bool (!decide (A = B))) W := by
  rw [strOf_BA, strOf_BA, binOp_string_neq, str_beq]
  rfl
theorem str_eql (t : TypeId) (A B : List B8) (W : World) : (binOp .eql t (strOf A) (strOf B)).run Tryd.prog W = .ok (.bool (decide (A = B))) W := by
  rw [strOf_BA, strOf_BA, binOp_string_eql, str_beq]
  rfl

set_option maxHeartbeats 400000 in
set_option maxRecDepth 100000 in
theorem refunhex_any (w : World) (T : List B8) (hT : T.length ≤ 100) : Calls Tryd.prog 21 #[strOf T] w fun e w' => e = .returned (.tuple #[.agg (Vb (unhexR T).1).toArray, .int .i64 (unhexR T).2]) ∧ Below w.heap.size w w' := by
  have hlen := str_len T
  go_enter Tryd.func21, Tryd.ntmps21
  go_wp2_with fail
  go_loopw [5] (fun i wr => ∃ k : Nat, k ≤ T.length ∧ k ≤ 64 ∧ i = .int .i64 k ∧ Blk wr (w.heap.size + 1) 31 (Vb (refD T k)) ∧ Blk wr w.heap.size 31 (List.replicate 32 (.int .u8 0)) ∧ Below w.heap.size w wr) (fun i _ => 64 - (intOf i).toNat)
  case atStart => exact ⟨0, by omega, by omega, rfl, by rw [show refD T 0 = zeros32 from rfl, zeros_cells]; exact blk_two w 31 31 (List.replicate 32 (.int .u8 0)) (List.replicate 32 (.int .u8 0)), (Blk.new w 31 (List.replicate 32 (.int .u8 0))).alloc _, ((Below.refl _ _).alloc (Nat.le_refl _) _).alloc (by simp) _⟩
  case round =>
    obtain ⟨k, hk, hk64, rfl, hb1, hb0, hbel⟩ := hrel
    have hrl := refD_length T k
    by_cases hin : k < T.length ∧ k < 64
    · obtain ⟨h1, h2⟩ := hin
      have HO := Lib.hid (And.intro hb1 (And.intro hb0 hbel))
      clear hb1 hb0 hbel
      go_wp2_with fail
      go_loopw [6] (fun jv wj => ∃ j : Nat, j ≤ 16 ∧ jv = .int .i64 j ∧ Blk wj (w.heap.size + 1) 31 (Vb ((refD T k).set (k / 2) (updJ ((refD T k).getD (k / 2) 0#8) (T.getD k 0#8) j))) ∧ Blk wj w.heap.size 31 (List.replicate 32 (.int .u8 0)) ∧ Below w.heap.size w wj) (fun jv _ => 16 - (intOf jv).toNat)
      case atStart =>
        refine ⟨0, by omega, rfl, ?_, HO.out.2.1, HO.out.2.2⟩
        rw [updJ_zero, set_same _ (by omega)]
        exact HO.out.1
      case round =>
        obtain ⟨j, hj, rfl, hc1, hc0, hcb⟩ := hrel
        by_cases hj16 : j < 16
        · have hx1 := str_index T k h1
          obtain ⟨c, hc⟩ : ∃ c, c = T.getD k 0#8 := ⟨_, rfl⟩
          obtain ⟨x, hx⟩ : ∃ x, x = (refD T k).getD (k / 2) 0#8 := ⟨_, rfl⟩
          rw [← hc] at hx1 hc1
          rw [← hx] at hc1
          have HC := Lib.hid (And.intro hc1 (And.intro hc0 (And.intro hcb (And.intro hc hx))))
          have hsg := sign_nat j hj16
          have hcell : wr.cell? ⟨w.heap.size + 1, k / 2, none⟩ = some (.int .u8 (nb (updJ x c j))) := by
            rw [hc1.cell, Vb_get, List.getElem?_set_self (by omega)]
            rfl
          have hfz := hc1.frozen (k / 2)
          have hset : ∀ y, Vb (((refD T k).set (k / 2) (updJ x c j)).set (k / 2) y) = (Vb ((refD T k).set (k / 2) (updJ x c j))).set (k / 2) (.int .u8 (nb y)) := fun y => by unfold Vb; rw [List.map_set]
          have HSET := Lib.hid hset
          clear hc1 hc0 hcb hc hx hset
          by_cases heq : c = sign j
          · have he : (nb c == nb (sign j)) = true := by rw [heq]; simp
            obtain ⟨u1, u2⟩ := updJ_hit (x := x) hj16 heq
            rw [u1] at hcell
            have hxb := nb_bound x
            have hput := put_val x j hj16
            have HU := Lib.hid (And.intro u1 u2)
            clear u1 u2
            go_wp2_with fail
            go_region
            all_goals go_wp2_with fail
            go_roundw
            case rel =>
              obtain ⟨hc1, hc0, hcb, hc, hx⟩ := HC.out
              refine ⟨j + 1, by omega, by go_num, ?_, (hc0.far (p := ⟨w.heap.size + 1, _, none⟩) (by simp) _).drew, (hcb.setCell (p := ⟨w.heap.size + 1, _, none⟩) (by simp) _).drew⟩
              rw [← hc, ← hx, HU.out.2]
              have := (hc1.set_ (k / 2) (.int .u8 (nb (BitVec.ofNat 8 (16 * (x.toNat % 16) + j))))).drew
              rw [← HSET.out, List.set_set] at this
              exact this
            case measure => simp [intOf]; omega
          · have he : (nb c == nb (sign j)) = false := beq_eq_false_iff_ne.2 (fun e => heq (nb_inj e))
            clear hcell hfz
            go_wp2_with fail
            go_region
            all_goals go_wp2_with fail
            go_roundw
            case rel =>
              obtain ⟨hc1, hc0, hcb, hc, hx⟩ := HC.out
              exact ⟨j + 1, by omega, by go_num, by rw [← hc, ← hx, updJ_miss heq]; exact hc1.drew, hc0.drew, hcb.drew⟩
            case measure => simp [intOf]; omega
        · obtain rfl : j = 16 := by omega
          rw [updJ_all] at hc1
          have HC := Lib.hid (And.intro hc1 (And.intro hc0 hcb))
          clear hc1 hc0 hcb
          go_wp2_with fail
          go_roundw
          case rel => exact ⟨k + 1, by omega, by omega, by go_num, HC.out.1, HC.out.2.1, HC.out.2.2⟩
          case measure => simp [intOf]; omega
    · have hmin : k = min T.length 64 := by omega
      rw [hmin] at hb1 hrl
      have hrs := ref_same T
      obtain ⟨D, hD⟩ : ∃ D, D = refD T (min T.length 64) := ⟨_, rfl⟩
      rw [← hD] at hb1 hrs hrl
      have HO := Lib.hid (And.intro hb1 (And.intro hb0 (And.intro hbel hrs)))
      clear hb1 hb0 hbel hrs hD hmin
      have hg := str_guard
      by_cases hk2 : k < T.length
      · have hk3 : ¬ k < 64 := by omega
        go_wp2_with (refine wpList_load_mid rfl 31 (.tmp 4) rfl (w.heap.size + 1) 0 rfl _ _ HO.out.1.range Tryd.underlying31 rfl (info31.trans (by rw [Vb_length, hrl])) ?_)
        refine (refhex_any _ D hrl).mono ?_
        rintro e w5 ⟨rfl, hb5⟩
        have HW := Lib.hid (And.intro (HO.out.1.below hb5 HO.out.1.lt) (And.intro (HO.out.2.1.below hb5 HO.out.2.1.lt) (HO.out.2.2.1.trans (hb5.mono HO.out.2.2.1.size))))
        clear hb5
        by_cases hq : hexS D 32 = T
        · have hne : ∀ W, (binOp .neq 9 (strOf (hexS D 32)) (strOf T)).run Tryd.prog W = .ok (.bool false) W := fun W => by rw [str_neq]; simp [hq]
          have hres := HO.out.2.2.2
          rw [if_pos hq] at hres
          have HRES := Lib.hid hres
          have HQ := Lib.hid hq
          clear hres hq
          go_wp2_with (first
            | (refine wpList_load_mid rfl 31 (.tmp 4) rfl (w.heap.size + 1) 0 rfl _ _ HW.out.1.range Tryd.underlying31 rfl (info31.trans (by rw [Vb_length, hrl])) ?_)
            | (refine wpList_store_blk rfl 31 (.tmp 2) (.tmp 44) rfl w.heap.size 0 (Vb D) rfl rfl HW.out.2.1 (by simp [Vb_length, hrl]) (info31.trans (by rw [Vb_length, hrl])) (Vb_oneCell _) ?_; intro w6 hA hO))
          rw [over_whole (by simp [Vb_length, hrl])] at hA
          exact bodyPost_ret (ret_two rfl rfl (run_loadVar_mid _ _ 0 31 _ _ hA.range Tryd.underlying31 rfl (info31.trans (by rw [Vb_length, hrl])))) rfl ⟨by rw [HRES.out]; rfl, HW.out.2.2.trans (hO.below (B := w.heap.size) HW.out.2.2.size (by simp))⟩
        · have hne : ∀ W, (binOp .neq 9 (strOf (hexS D 32)) (strOf T)).run Tryd.prog W = .ok (.bool true) W := fun W => by rw [str_neq]; simp [hq]
          have hres := HO.out.2.2.2
          rw [if_neg hq, show List.replicate 32 0#8 = zeros32 from rfl] at hres
          have HRES := Lib.hid hres
          clear hres hq
          go_wp2_with (refine wpList_store_blk rfl 31 (.tmp 2) (.tmp 43) rfl w.heap.size 0 (List.replicate 32 (.int .u8 0)) rfl rfl HW.out.2.1 (by simp) info31 (zero_one 32) ?_; intro w6 hA hO)
          rw [over_whole rfl] at hA
          exact bodyPost_ret (ret_two rfl rfl (run_loadVar_mid _ _ 0 31 _ _ hA.range Tryd.underlying31 rfl info31)) rfl ⟨by rw [HRES.out, zeros_cells]; rfl, HW.out.2.2.trans (hO.below (B := w.heap.size) HW.out.2.2.size (by simp))⟩
      · have hk3 : T.length = k := by omega
        go_wp2_with (refine wpList_load_mid rfl 31 (.tmp 4) rfl (w.heap.size + 1) 0 rfl _ _ HO.out.1.range Tryd.underlying31 rfl (info31.trans (by rw [Vb_length, hrl])) ?_)
        refine (refhex_any _ D hrl).mono ?_
        rintro e w5 ⟨rfl, hb5⟩
        have HW := Lib.hid (And.intro (HO.out.1.below hb5 HO.out.1.lt) (And.intro (HO.out.2.1.below hb5 HO.out.2.1.lt) (HO.out.2.2.1.trans (hb5.mono HO.out.2.2.1.size))))
        clear hb5
        by_cases hq : hexS D 32 = T
        · have hne : ∀ W, (binOp .neq 9 (strOf (hexS D 32)) (strOf T)).run Tryd.prog W = .ok (.bool false) W := fun W => by rw [str_neq]; simp [hq]
          have hres := HO.out.2.2.2
          rw [if_pos hq] at hres
          have HRES := Lib.hid hres
          have HQ := Lib.hid hq
          clear hres hq
          go_wp2_with (first
            | (refine wpList_load_mid rfl 31 (.tmp 4) rfl (w.heap.size + 1) 0 rfl _ _ HW.out.1.range Tryd.underlying31 rfl (info31.trans (by rw [Vb_length, hrl])) ?_)
            | (refine wpList_store_blk rfl 31 (.tmp 2) (.tmp 44) rfl w.heap.size 0 (Vb D) rfl rfl HW.out.2.1 (by simp [Vb_length, hrl]) (info31.trans (by rw [Vb_length, hrl])) (Vb_oneCell _) ?_; intro w6 hA hO))
          rw [over_whole (by simp [Vb_length, hrl])] at hA
          exact bodyPost_ret (ret_two rfl rfl (run_loadVar_mid _ _ 0 31 _ _ hA.range Tryd.underlying31 rfl (info31.trans (by rw [Vb_length, hrl])))) rfl ⟨by rw [HRES.out]; rfl, HW.out.2.2.trans (hO.below (B := w.heap.size) HW.out.2.2.size (by simp))⟩
        · have hne : ∀ W, (binOp .neq 9 (strOf (hexS D 32)) (strOf T)).run Tryd.prog W = .ok (.bool true) W := fun W => by rw [str_neq]; simp [hq]
          have hres := HO.out.2.2.2
          rw [if_neg hq, show List.replicate 32 0#8 = zeros32 from rfl] at hres
          have HRES := Lib.hid hres
          clear hres hq
          go_wp2_with (refine wpList_store_blk rfl 31 (.tmp 2) (.tmp 43) rfl w.heap.size 0 (List.replicate 32 (.int .u8 0)) rfl rfl HW.out.2.1 (by simp) info31 (zero_one 32) ?_; intro w6 hA hO)
          rw [over_whole rfl] at hA
          exact bodyPost_ret (ret_two rfl rfl (run_loadVar_mid _ _ 0 31 _ _ hA.range Tryd.underlying31 rfl info31)) rfl ⟨by rw [HRES.out, zeros_cells]; rfl, HW.out.2.2.trans (hO.below (B := w.heap.size) HW.out.2.2.size (by simp))⟩

end Go.Proofs.YtkblpcegdfhmoaaDoor
