/-
  DigestStreams, walked: it returns true. Conditions: the argument's texts are known; the constants lie in their variable.
-/
import Derived.Test.YtkblpcegdfhmoaaDoorDStreamKit
import Derived.Deep.RegionHeld3
import Derived.Deep.CutRange
namespace Go.Proofs.YtkblpcegdfhmoaaDoor
open Go.RowKit

theorem at_small (a : Int) : ∃ t : Nat, t < 12 ∧ wrap64 ((IntKind.u64.wrap a).tmod 12) = (t : Int) := by
  have h0 : 0 ≤ IntKind.u64.wrap a := by
    simp [IntKind.wrap, IntKind.signed, IntKind.bits]
    omega
  rw [Int.tmod_eq_emod_of_nonneg h0]
  generalize IntKind.u64.wrap a = z at *
  refine ⟨(z % 12).toNat, by omega, ?_⟩
  have hz : wrap64 (z % 12) = z % 12 := by unfold wrap64; omega
  rw [hz]
  omega
theorem OTexts.cell {B n c : Nat} {w : World} {A : Option Addr} {X : List (List B8)} (h : OTexts B w (.slice A n c) X) {k : Nat} (hk : k < X.length) : ∃ g A' m c', A = some ⟨g, 0, none⟩ ∧ w.cell? ⟨g, k, none⟩ = some (.slice A' m c') ∧ TxtN w w.heap.size A' m c' (X.getD k []) := by
  obtain ⟨cells, ho, hc⟩ := h
  obtain ⟨A', m, c', h1, h2⟩ := hc k (X.getD k []) (by rw [List.getD_eq_getElem?_getD, List.getElem?_eq_getElem hk]; rfl)
  have h0 := ho.1
  rcases ho.2 with ⟨hv, hx⟩ | ⟨g, cap, cur, hv, hb, hg, hl, hm, hs, hcs⟩
  · omega
  · simp only [Value.slice.injEq] at hv
    obtain ⟨rfl, rfl, rfl⟩ := hv
    refine ⟨g, A', m, c', rfl, ?_, h2⟩
    have hoc : w.ownsRow B 23 1 (.slice (some ⟨g, 0, none⟩) X.length c) X.length cells := ⟨h0, .inr ⟨g, c, cur, rfl, hb, hg, hl, hm, hs, hcs⟩⟩
    rw [hoc.cellAt k (by omega), h1]
theorem two_flat (a b : List B8) : [a, b].flatten = a ++ b := by simp
theorem flat_on (X : List (List B8)) {k : Nat} (hk : k < X.length) : (X.take (k + 1)).flatten = (X.take k).flatten ++ X.getD k [] :=
  take_flat (by rw [List.getD_eq_getElem?_getD, List.getElem?_eq_getElem hk]; rfl)

set_option maxHeartbeats 4000000 in
set_option maxRecDepth 100000 in
theorem streams_walk (w : World) (L : Option Addr) (n c : Nat) (at0 : Int) (xs : List (List B8)) (ht : TxtsN w w.heap.size L n xs) (hn : n ≤ 9223372036854775807) (hK : Roots Ks w) :
    Calls Tryd.prog 4 #[.slice L n c, .int .i64 at0] w fun e w' => e = .returned (.bool true) ∧ Below w.heap.size w w' := by
  have hpos := hK.pos
  have HK := Lib.hid hK
  have hz44 := zero44
  clear hK
  go_enter Tryd.func4, Tryd.ntmps4
  go_wp2_with fail
  refine (texts_any w L n c xs ht hn).mono ?_
  clear ht
  rintro e w1 ⟨vx, va, rfl, hox, hoa, hb⟩
  obtain ⟨X, hX⟩ : ∃ X, X = cutT xs := ⟨_, rfl⟩
  have hX12 := cut_len xs
  have hXa := cut_all xs
  rw [← hX] at hox hoa hX12 hXa
  clear hX
  obtain ⟨N, hN⟩ : ∃ N, N = X.flatten.length := ⟨_, rfl⟩
  rw [← hN] at hoa hXa
  have H1 := Lib.hid (And.intro (HK.out.below hb hpos) (And.intro hox (And.intro hoa hb)))
  have hw1 : 0 < w1.heap.size := by have := hb.size; omega
  have HNN := Lib.hid hN
  clear hox hoa hb hN
  obtain ⟨A, cx, rfl, -⟩ := H1.out.2.1.form
  obtain ⟨Aa, ca, rfl, -⟩ := own_form H1.out.2.2.1
  have HZ : Hid (SS w1 [] none [] (w1.alloc (.cells zeroCells.toArray 44))) := Lib.hid ⟨zero_str Ks (Blk.new w1 44 zeroCells), (Below.refl _ _).alloc (Nat.le_refl _) _, .inl rfl⟩
  go_wp2_with fail
  obtain ⟨t, ht12, hte⟩ := at_small at0
  rw [hte]
  clear hte
  go_loopw [8, 9, 10] (fun fv nv iv wr => ∃ (k : Nat) (fa : Option Addr), k ≤ X.length ∧ fv = .pointer fa ∧ nv = .int .i64 ((X.take k).flatten.length : Nat) ∧ iv = .int .i64 k ∧ SS w1 (X.take k).flatten fa ((X.take (t + 1)).flatten ++ [1#8]) wr ∧ (k ≤ t → fa = none) ∧ (t < k → fa ≠ none)) (fun _ _ iv _ => X.length - (intOf iv).toNat)
  case atStart => exact ⟨0, none, by omega, rfl, rfl, rfl, ⟨HZ.out.str, HZ.out.bel, .inl rfl⟩, fun _ => rfl, fun h => by omega⟩
  case round =>
    clear HZ
    obtain ⟨k, fa, hk, rfl, rfl, rfl, hss, hf1, hf2⟩ := hrel
    have HS := Lib.hid hss
    have HF := Lib.hid (And.intro hf1 hf2)
    clear hss hf1 hf2
    by_cases hkn : k < X.length
    · obtain ⟨g, A', m', c', rfl, hcell, htx⟩ := H1.out.2.1.cell hkn
      have hflat := flat_on X hkn
      have hfle := take_flat_le X (k + 1)
      rw [← HNN.out] at hfle
      have hxl := htx.txt.len
      generalize X.getD k [] = x at htx hflat hxl
      have HX := Lib.hid (And.intro htx hflat)
      have hcw : wr.cell? ⟨g, k, none⟩ = some (.slice A' m' c') := (HS.out.bel.cell (p := ⟨g, k, none⟩) (World.block_lt_of_cell? w1 _ hcell)).trans hcell
      have hle : (X.take (k + 1)).flatten.length = (X.take k).flatten.length + m' := by rw [hflat, List.length_append, hxl]
      have HLE := Lib.hid hle
      have hlt := HS.out.lt
      have hgl : g < w1.heap.size := World.block_lt_of_cell? w1 _ hcell
      have HC := Lib.hid hcell
      clear hcell htx hflat
      rw [hle] at hfle
      clear hle hxl
      generalize hfl : (X.take k).flatten.length = fl at *
      have HFL := Lib.hid hfl
      clear hfl
      go_wp2_with fail
      have hT := one_txtsP (HX.out.1.below HS.out.bel (Nat.le_refl _)) hlt
      have hS2 := HS.out.below (below_new wr (.cells #[.slice A' m' c'] 23))
      refine (write_any Ks _ w1.heap.size (X.take k).flatten _ 1 1 [x] hw1 (H1.out.1.below hS2.bel hw1) hS2.str hT (by omega) (by rw [one_flat, HFL.out, HX.out.1.txt.len]; omega)).mono ?_
      rw [one_flat, ← HX.out.2]
      rintro e w2 ⟨rfl, hs, ho⟩
      have HS2 := Lib.hid (hS2.write ho hs)
      clear hT hS2 hs ho HS
      have hcw2 : w2.cell? ⟨g, k, none⟩ = some (.slice A' m' c') := (HS2.out.bel.cell (p := ⟨g, k, none⟩) hgl).trans HC.out
      clear hcw
      go_upto_if 43 with fail
      go_cut [8] from 22 to 67 (fun fv wx => ∃ fa', fv = .pointer fa' ∧ SS w1 (X.take (k + 1)).flatten fa' ((X.take (t + 1)).flatten ++ [1#8]) wx ∧ (k + 1 ≤ t → fa' = none) ∧ (t < k + 1 → fa' ≠ none))
      case first =>
        have hlt2 := HS2.out.lt
        by_cases hkt : k = t
        · have hb1 : ((k : Int) == (t : Int)) = true := by rw [hkt]; simp
          have HKT := Lib.hid hkt
          clear hkt
          go_wp2_with fail
          refine (fork_str Ks w2 w1.heap.size _ HS2.out.str).mono ?_
          rintro e w3 ⟨q, rfl, hq, hsq, hbq⟩
          have HS3 := Lib.hid (HS2.out.below hbq)
          have hq3 := hsq.lt
          have HQ := Lib.hid hsq
          have hw23 := hbq.size
          clear hsq hbq HS2 hcw2
          go_wp2_with fail
          have hS4 := HS3.out.below ((below_new w3 (.cells #[.int .u8 1] 5)).trans (((below_new (w3.alloc (.cells #[.int .u8 1] 5)) (.cells #[.slice (some ⟨w3.heap.size, 0, none⟩) 1 1] 23))).mono (by simp)))
          have hQ4 : IsStr Ks ((w3.alloc (.cells #[.int .u8 1] 5)).alloc (.cells #[.slice (some ⟨w3.heap.size, 0, none⟩) 1 1] 23)) q (X.take (k + 1)).flatten := HQ.out.below ((below_new w3 (.cells #[.int .u8 1] 5)).trans (((below_new (w3.alloc (.cells #[.int .u8 1] 5)) (.cells #[.slice (some ⟨w3.heap.size, 0, none⟩) 1 1] 23))).mono (by simp))) hq3
          refine (write_any Ks _ q (X.take (k + 1)).flatten _ 1 1 [[1#8]] (by omega) (H1.out.1.below hS4.bel hw1) hQ4 (byte_txts w3 q hq3) (by omega) (by rw [one_flat, HLE.out]; simp; omega)).mono ?_
          rw [one_flat]
          rintro e w5 ⟨rfl, hs, ho⟩
          have HS5 := Lib.hid (hS4.forked (q := q) (by omega) ho hs)
          clear hS4 hQ4 hs ho HS3 HQ
          go_wp2_with fail
          go_meet
          refine ⟨_, rfl, ?_, fun h => by have := HKT.out; omega, fun _ h => by cases h⟩
          rw [← HKT.out]
          exact HS5.out
        · have hb1 : ((k : Int) == (t : Int)) = false := by simp; omega
          go_wp2_with fail
          go_meet
          exact ⟨fa, rfl, HS2.out, fun h => HF.out.1 (by omega), fun h => HF.out.2 (by omega)⟩
      case rest =>
        obtain ⟨fa', rfl, hss, hg1, hg2⟩ := hcut
        have HS6 := Lib.hid hss
        have HG := Lib.hid (And.intro hg1 hg2)
        clear hss hg1 hg2 HS2 hcw2 HF
        obtain ⟨M, hM⟩ : ∃ M, M = (X.take (k + 1)).flatten := ⟨_, rfl⟩
        have hMl : M.length = fl + m' := by rw [hM]; exact HLE.out
        have hMp : X.flatten.take (fl + m') = M := by rw [hM, ← HLE.out]; exact take_flat_prefix X (k + 1)
        rw [← hM] at HS6
        have HM := Lib.hid (And.intro hM (And.intro hMl hMp))
        clear hM hMl hMp
        have hsl : ∀ W, (Instr.sliceAt 23 (.slice Aa N ca) none (some (.int .i64 ((fl : Int) + (m' : Int)))) none).run Tryd.prog W = .ok (.slice Aa (fl + m') ca) W := fun W => by
          rw [show (fl : Int) + (m' : Int) = ((fl + m' : Nat) : Int) by omega]
          exact slice_to Aa N ca (fl + m') (by have := (own_txt H1.out.2.2.1).txt.cap; omega) W
        have hneq : ∀ W, (Op.equalIn 10000 31 (.agg (Vb (sha Ks M)).toArray) (.agg (Vb (sha Ks M)).toArray)).run Tryd.prog W = .ok true W := fun W => by
          rw [eql32 _ _ (sha_length _ _) (sha_length _ _)]
          simp
        go_wp2_with fail
        refine wp_region_held_drew (S := SS w1 M fa' ((X.take (t + 1)).flatten ++ [1#8])) (by kernel_rfl) HS6.out.drew (fun hHeld => ?_)
        generalize wc.drew = wD at *
        refine wpAnyH_take (i := 1) (v := ?_) (by simp only [List.getElem?_toArray, List.getElem?_cons_succ, List.getElem?_cons_zero]; rfl) (by kernel_rfl) (by kernel_rfl) (by kernel_rfl) (by exact fun _ _ _ h => h) (Or.inl ⟨by rfl, fun _ hSw => ?_⟩) (by assumption) ?_
        rotate_left
        · go_simp
          first | done | with_reducible rfl
        try simp only [Act.put, List.setIfInBounds_toArray, List.set_cons_zero, List.set_cons_succ]
        refine wpAnyH_ready (rs := [0]) (by kernel_rfl) (by simp) ?_
        refine (AllReadyH.cons (by simp only [List.getElem?_toArray, List.getElem?_cons_zero]; rfl) (fun K hK => ?_) AllReadyH.nil)
        go_simp
        refine (len_any _ w1.heap.size ((fl : Int) + (m' : Int)) (by rw [hHeld.str.len, HM.out.2.1, Int.natCast_add])).mono ?_
        rintro e wX ⟨rfl, rfl⟩
        go_wp2_with fail
        refine hK.out _ _ hHeld (fun hHeld => ?_)
        clear hK K
        try simp only [Act.put, List.setIfInBounds_toArray, List.set_cons_zero, List.set_cons_succ]
        refine wpAnyH_take (i := 2) (v := ?_) (by simp only [List.getElem?_toArray, List.getElem?_cons_succ, List.getElem?_cons_zero]; rfl) (by kernel_rfl) (by kernel_rfl) (by kernel_rfl) (by exact fun _ _ _ h => h) (Or.inl ⟨by rfl, fun _ hSw => ?_⟩) (by assumption) ?_
        rotate_left
        · go_simp
          first | done | with_reducible rfl
        try simp only [Act.put, List.setIfInBounds_toArray, List.set_cons_zero, List.set_cons_succ]
        refine wpAnyH_take (i := 3) (v := ?_) (by simp only [List.getElem?_toArray, List.getElem?_cons_succ, List.getElem?_cons_zero]; rfl) (by kernel_rfl) (by kernel_rfl) (by kernel_rfl) (by exact fun _ _ _ h => h) (Or.inl ⟨by rfl, fun _ hSw => ?_⟩) (by assumption) ?_
        rotate_left
        · go_simp
          first | done | with_reducible rfl
        try simp only [Act.put, List.setIfInBounds_toArray, List.set_cons_zero, List.set_cons_succ]
        refine wpAnyH_take (i := 5) (v := ?_) (by simp only [List.getElem?_toArray, List.getElem?_cons_succ, List.getElem?_cons_zero]; rfl) (by kernel_rfl) (by kernel_rfl) (by kernel_rfl) (by exact fun _ _ _ h => h) (Or.inl ⟨by rfl, fun _ hSw => ?_⟩) (by assumption) ?_
        rotate_left
        · go_simp
          first | done | with_reducible rfl
        try simp only [Act.put, List.setIfInBounds_toArray, List.set_cons_zero, List.set_cons_succ]
        refine wpAnyH_take (i := 6) (v := ?_) (by simp only [List.getElem?_toArray, List.getElem?_cons_succ, List.getElem?_cons_zero]; rfl) (by kernel_rfl) (by kernel_rfl) (by kernel_rfl) (by exact fun _ _ _ h => h) (Or.inl ⟨by rfl, fun _ hSw => ?_⟩) (by assumption) ?_
        rotate_left
        · go_simp
          first | done | with_reducible rfl
        try simp only [Act.put, List.setIfInBounds_toArray, List.set_cons_zero, List.set_cons_succ]
        refine wpAnyH_take (i := 7) (v := ?_) (by simp only [List.getElem?_toArray, List.getElem?_cons_succ, List.getElem?_cons_zero]; rfl) (by kernel_rfl) (by kernel_rfl) (by kernel_rfl) (by exact fun _ _ _ h => h) (Or.inl ⟨by rfl, fun _ hSw => ?_⟩) (by assumption) ?_
        rotate_left
        · go_simp
          first | done | with_reducible rfl
        try simp only [Act.put, List.setIfInBounds_toArray, List.set_cons_zero, List.set_cons_succ]
        refine wpAnyH_ready (rs := [4, 8]) (by kernel_rfl) (by simp) ?_
        refine (AllReadyH.cons (by simp only [List.getElem?_toArray, List.getElem?_cons_succ, List.getElem?_cons_zero]; rfl) (fun K hK => ?_) (AllReadyH.cons (by simp only [List.getElem?_toArray, List.getElem?_cons_succ, List.getElem?_cons_zero]; rfl) (fun K hK => ?_) AllReadyH.nil))
        · go_simp
          refine (sum_any Ks _ (some ⟨w1.heap.size, 0, none⟩) M (H1.out.1.below hHeld.bel hw1) hHeld.ptr (by rw [HM.out.2.1]; omega)).mono ?_
          rintro e whA ⟨rfl, hbhA⟩
          have hA := hHeld.below hbhA
          go_wp2_with fail
          refine hK.out _ _ hA (fun hHeld => ?_)
          clear hK K
          try simp only [Act.put, List.setIfInBounds_toArray, List.set_cons_zero, List.set_cons_succ]
          have hT := one_txts (((own_txt H1.out.2.2.1).later hHeld.bel).take (fl + m') (by omega))
          rw [HM.out.2.2] at hT
          refine wpAnyH_ready (rs := [8]) (by kernel_rfl) (by simp) ?_
          refine (AllReadyH.cons (by simp only [List.getElem?_toArray, List.getElem?_cons_succ, List.getElem?_cons_zero]; rfl) (fun K hK => ?_) AllReadyH.nil)
          go_simp
          refine hK.out _ _ (hHeld.below (below_new _ (.cells #[.slice Aa (fl + m') ca] 23))) (fun hHeldN => ?_)
          clear hK K
          try simp only [Act.put, List.setIfInBounds_toArray, List.set_cons_zero, List.set_cons_succ]
          refine wpAnyH_ready (rs := [9]) (by kernel_rfl) (by simp) ?_
          refine (AllReadyH.cons (by simp only [List.getElem?_toArray, List.getElem?_cons_succ, List.getElem?_cons_zero]; rfl) (fun K hK => ?_) AllReadyH.nil)
          go_simp
          refine (of_any Ks _ _ _ 1 1 [M] (H1.out.1.below hHeldN.bel hw1) hT (by omega) (by rw [one_flat, HM.out.2.1]; omega)).mono ?_
          rw [one_flat]
          rintro e wO ⟨rfl, hbO⟩
          have hO := hHeldN.below hbO
          go_wp2_with fail
          refine hK.out _ _ hO (fun hHeld => ?_)
          clear hK K
          try simp only [Act.put, List.setIfInBounds_toArray, List.set_cons_zero, List.set_cons_succ]
          refine wpAnyH_take (i := 10) (v := ?_) (by simp only [List.getElem?_toArray, List.getElem?_cons_succ, List.getElem?_cons_zero]; rfl) (by kernel_rfl) (by kernel_rfl) (by kernel_rfl) (by exact fun _ _ _ h => h) (Or.inl ⟨by rfl, fun _ hSw => ?_⟩) (by assumption) ?_
          rotate_left
          · go_simp
            first | done | with_reducible rfl
          try simp only [Act.put, List.setIfInBounds_toArray, List.set_cons_zero, List.set_cons_succ]
          refine wpAnyH_take (i := 11) (v := ?_) (by simp only [List.getElem?_toArray, List.getElem?_cons_succ, List.getElem?_cons_zero]; rfl) (by kernel_rfl) (by kernel_rfl) (by kernel_rfl) (by exact fun _ _ _ h => h) (Or.inl ⟨by rfl, fun _ hSw => ?_⟩) (by assumption) ?_
          rotate_left
          · go_simp
            first | done | with_reducible rfl
          try simp only [Act.put, List.setIfInBounds_toArray, List.set_cons_zero, List.set_cons_succ]
          refine wpAnyH_take (i := 12) (v := ?_) (by simp only [List.getElem?_toArray, List.getElem?_cons_succ, List.getElem?_cons_zero]; rfl) (by kernel_rfl) (by kernel_rfl) (by kernel_rfl) (by exact fun _ _ _ h => h) (Or.inl ⟨by rfl, fun _ hSw => ?_⟩) (by assumption) ?_
          rotate_left
          · go_simp
            first | done | with_reducible rfl
          try simp only [Act.put, List.setIfInBounds_toArray, List.set_cons_zero, List.set_cons_succ]
          refine wpAnyH_ready (rs := [13]) (by kernel_rfl) (by simp) ?_
          refine (AllReadyH.cons (by simp only [List.getElem?_toArray, List.getElem?_cons_succ, List.getElem?_cons_zero]; rfl) (fun K hK => ?_) AllReadyH.nil)
          go_simp
          refine (sum_any Ks _ (some ⟨w1.heap.size, 0, none⟩) M (H1.out.1.below hHeld.bel hw1) hHeld.ptr (by rw [HM.out.2.1]; omega)).mono ?_
          rintro e whX ⟨rfl, hbhX⟩
          have hX := hHeld.below hbhX
          go_wp2_with fail
          refine hK.out _ _ hX (fun hHeld => ?_)
          clear hK K
          try simp only [Act.put, List.setIfInBounds_toArray, List.set_cons_zero, List.set_cons_succ]
          refine wpAnyH_ready (rs := [14]) (by kernel_rfl) (by simp) ?_
          refine (AllReadyH.cons (by simp only [List.getElem?_toArray, List.getElem?_cons_succ, List.getElem?_cons_zero]; rfl) (fun K hK => ?_) AllReadyH.nil)
          go_simp
          refine (sum_any Ks _ (some ⟨w1.heap.size, 0, none⟩) M (H1.out.1.below hHeld.bel hw1) hHeld.ptr (by rw [HM.out.2.1]; omega)).mono ?_
          rintro e whX ⟨rfl, hbhX⟩
          have hX := hHeld.below hbhX
          go_wp2_with fail
          refine hK.out _ _ hX (fun hHeld => ?_)
          clear hK K
          try simp only [Act.put, List.setIfInBounds_toArray, List.set_cons_zero, List.set_cons_succ]
          refine wpAnyH_take (i := 15) (v := ?_) (by simp only [List.getElem?_toArray, List.getElem?_cons_succ, List.getElem?_cons_zero]; rfl) (by kernel_rfl) (by kernel_rfl) (by kernel_rfl) (by exact fun _ _ _ h => h) (Or.inl ⟨by rfl, fun _ hSw => ?_⟩) (by assumption) ?_
          rotate_left
          · go_simp
            first | done | with_reducible rfl
          try simp only [Act.put, List.setIfInBounds_toArray, List.set_cons_zero, List.set_cons_succ]
          refine wpAnyH_take (i := 16) (v := ?_) (by simp only [List.getElem?_toArray, List.getElem?_cons_succ, List.getElem?_cons_zero]; rfl) (by kernel_rfl) (by kernel_rfl) (by kernel_rfl) (by exact fun _ _ _ h => h) (Or.inl ⟨by rfl, fun _ hSw => ?_⟩) (by assumption) ?_
          rotate_left
          · go_simp
            first | done | with_reducible rfl
          try simp only [Act.put, List.setIfInBounds_toArray, List.set_cons_zero, List.set_cons_succ]
          refine wpAnyH_done (by kernel_rfl) ?_ _
          go_wp2_with fail
          go_roundw
          case rel =>
            refine ⟨k + 1, fa', by omega, rfl, ?_, by go_num, ?_, HG.out.1, HG.out.2⟩
            · rw [← HM.out.1, HM.out.2.1]; go_num
            · rw [← HM.out.1]; exact hHeld
          case measure => simp [intOf]; omega
        · have hT := one_txts (((own_txt H1.out.2.2.1).later hHeld.bel).take (fl + m') (by omega))
          rw [HM.out.2.2] at hT
          go_simp
          refine hK.out _ _ (hHeld.below (below_new _ (.cells #[.slice Aa (fl + m') ca] 23))) (fun hHeldN => ?_)
          clear hK K
          try simp only [Act.put, List.setIfInBounds_toArray, List.set_cons_zero, List.set_cons_succ]
          refine wpAnyH_ready (rs := [4]) (by kernel_rfl) (by simp) ?_
          refine (AllReadyH.cons (by simp only [List.getElem?_toArray, List.getElem?_cons_succ, List.getElem?_cons_zero]; rfl) (fun K hK => ?_) AllReadyH.nil)
          go_simp
          refine (sum_any Ks _ (some ⟨w1.heap.size, 0, none⟩) M (H1.out.1.below hHeldN.bel hw1) hHeldN.ptr (by rw [HM.out.2.1]; omega)).mono ?_
          rintro e whB ⟨rfl, hbhB⟩
          have hB := hHeldN.below hbhB
          go_wp2_with fail
          refine hK.out _ _ hB (fun hHeld => ?_)
          clear hK K
          try simp only [Act.put, List.setIfInBounds_toArray, List.set_cons_zero, List.set_cons_succ]
          refine wpAnyH_ready (rs := [9]) (by kernel_rfl) (by simp) ?_
          refine (AllReadyH.cons (by simp only [List.getElem?_toArray, List.getElem?_cons_succ, List.getElem?_cons_zero]; rfl) (fun K hK => ?_) AllReadyH.nil)
          go_simp
          refine (of_any Ks _ _ _ 1 1 [M] (H1.out.1.below hHeld.bel hw1) (hT.below hbhB (Nat.le_refl _)) (by omega) (by rw [one_flat, HM.out.2.1]; omega)).mono ?_
          rw [one_flat]
          rintro e wO ⟨rfl, hbO⟩
          have hO := hHeld.below hbO
          go_wp2_with fail
          refine hK.out _ _ hO (fun hHeld => ?_)
          clear hK K
          try simp only [Act.put, List.setIfInBounds_toArray, List.set_cons_zero, List.set_cons_succ]
          refine wpAnyH_take (i := 10) (v := ?_) (by simp only [List.getElem?_toArray, List.getElem?_cons_succ, List.getElem?_cons_zero]; rfl) (by kernel_rfl) (by kernel_rfl) (by kernel_rfl) (by exact fun _ _ _ h => h) (Or.inl ⟨by rfl, fun _ hSw => ?_⟩) (by assumption) ?_
          rotate_left
          · go_simp
            first | done | with_reducible rfl
          try simp only [Act.put, List.setIfInBounds_toArray, List.set_cons_zero, List.set_cons_succ]
          refine wpAnyH_take (i := 11) (v := ?_) (by simp only [List.getElem?_toArray, List.getElem?_cons_succ, List.getElem?_cons_zero]; rfl) (by kernel_rfl) (by kernel_rfl) (by kernel_rfl) (by exact fun _ _ _ h => h) (Or.inl ⟨by rfl, fun _ hSw => ?_⟩) (by assumption) ?_
          rotate_left
          · go_simp
            first | done | with_reducible rfl
          try simp only [Act.put, List.setIfInBounds_toArray, List.set_cons_zero, List.set_cons_succ]
          refine wpAnyH_take (i := 12) (v := ?_) (by simp only [List.getElem?_toArray, List.getElem?_cons_succ, List.getElem?_cons_zero]; rfl) (by kernel_rfl) (by kernel_rfl) (by kernel_rfl) (by exact fun _ _ _ h => h) (Or.inl ⟨by rfl, fun _ hSw => ?_⟩) (by assumption) ?_
          rotate_left
          · go_simp
            first | done | with_reducible rfl
          try simp only [Act.put, List.setIfInBounds_toArray, List.set_cons_zero, List.set_cons_succ]
          refine wpAnyH_ready (rs := [13]) (by kernel_rfl) (by simp) ?_
          refine (AllReadyH.cons (by simp only [List.getElem?_toArray, List.getElem?_cons_succ, List.getElem?_cons_zero]; rfl) (fun K hK => ?_) AllReadyH.nil)
          go_simp
          refine (sum_any Ks _ (some ⟨w1.heap.size, 0, none⟩) M (H1.out.1.below hHeld.bel hw1) hHeld.ptr (by rw [HM.out.2.1]; omega)).mono ?_
          rintro e whX ⟨rfl, hbhX⟩
          have hX := hHeld.below hbhX
          go_wp2_with fail
          refine hK.out _ _ hX (fun hHeld => ?_)
          clear hK K
          try simp only [Act.put, List.setIfInBounds_toArray, List.set_cons_zero, List.set_cons_succ]
          refine wpAnyH_ready (rs := [14]) (by kernel_rfl) (by simp) ?_
          refine (AllReadyH.cons (by simp only [List.getElem?_toArray, List.getElem?_cons_succ, List.getElem?_cons_zero]; rfl) (fun K hK => ?_) AllReadyH.nil)
          go_simp
          refine (sum_any Ks _ (some ⟨w1.heap.size, 0, none⟩) M (H1.out.1.below hHeld.bel hw1) hHeld.ptr (by rw [HM.out.2.1]; omega)).mono ?_
          rintro e whX ⟨rfl, hbhX⟩
          have hX := hHeld.below hbhX
          go_wp2_with fail
          refine hK.out _ _ hX (fun hHeld => ?_)
          clear hK K
          try simp only [Act.put, List.setIfInBounds_toArray, List.set_cons_zero, List.set_cons_succ]
          refine wpAnyH_take (i := 15) (v := ?_) (by simp only [List.getElem?_toArray, List.getElem?_cons_succ, List.getElem?_cons_zero]; rfl) (by kernel_rfl) (by kernel_rfl) (by kernel_rfl) (by exact fun _ _ _ h => h) (Or.inl ⟨by rfl, fun _ hSw => ?_⟩) (by assumption) ?_
          rotate_left
          · go_simp
            first | done | with_reducible rfl
          try simp only [Act.put, List.setIfInBounds_toArray, List.set_cons_zero, List.set_cons_succ]
          refine wpAnyH_take (i := 16) (v := ?_) (by simp only [List.getElem?_toArray, List.getElem?_cons_succ, List.getElem?_cons_zero]; rfl) (by kernel_rfl) (by kernel_rfl) (by kernel_rfl) (by exact fun _ _ _ h => h) (Or.inl ⟨by rfl, fun _ hSw => ?_⟩) (by assumption) ?_
          rotate_left
          · go_simp
            first | done | with_reducible rfl
          try simp only [Act.put, List.setIfInBounds_toArray, List.set_cons_zero, List.set_cons_succ]
          refine wpAnyH_done (by kernel_rfl) ?_ _
          go_wp2_with fail
          go_roundw
          case rel =>
            refine ⟨k + 1, fa', by omega, rfl, ?_, by go_num, ?_, HG.out.1, HG.out.2⟩
            · rw [← HM.out.1, HM.out.2.1]; go_num
            · rw [← HM.out.1]; exact hHeld
          case measure => simp [intOf]; omega
    · obtain rfl : k = X.length := by omega
      have htk : X.take X.length = X := List.take_of_length_le (Nat.le_refl _)
      rw [htk] at HS ⊢
      rw [← HNN.out]
      clear htk hkn hk
      have hcl : X.flatten.length ≤ 3600 := by rw [← HNN.out]; exact hXa
      have HCL := Lib.hid hcl
      clear hcl
      go_upto_if 69 with fail
      go_cut [] (fun wx => SS w1 X.flatten fa ((X.take (t + 1)).flatten ++ [1#8]) wx)
      case first =>
        match fa, HS, HF with
        | none, HS, HF =>
          go_wp2_with fail
          go_meet
          exact HS.out
        | some fadr, HS, HF =>
          have htl : t < X.length := by
            rcases Nat.lt_or_ge t X.length with h | h
            · exact h
            · have := HF.out.1 h
              cases this
          obtain ⟨q, rfl⟩ : ∃ q, fadr = ⟨q, 0, none⟩ := by
            rcases HS.out.fork with h1 | ⟨q, h1, _, _⟩
            · cases h1
            · exact ⟨q, by simpa using h1⟩
          have hbelw := HS.out.bel
          have HB := Lib.hid hbelw
          clear hbelw HF
          obtain ⟨wo, rfl⟩ : ∃ wo : World, wo = wr := ⟨_, rfl⟩
          go_wp2_with fail
          go_loopw [11, 12] (fun sv iv wz => ∃ j : Nat, j ≤ t + 1 ∧ iv = .int .i64 j ∧ sv = .int .i64 ((X.take j).flatten.length : Nat) ∧ wz = wo) (fun _ iv _ => t + 1 - (intOf iv).toNat)
          case atStart => exact ⟨0, by omega, rfl, rfl, rfl⟩
          case round =>
            obtain ⟨j, hj, rfl, rfl, rfl⟩ := hrel
            by_cases hjt : j ≤ t
            · obtain ⟨g, A', m', c', rfl, hcell, htx⟩ := H1.out.2.1.cell (k := j) (by omega)
              have hcw : wr.cell? ⟨g, j, none⟩ = some (.slice A' m' c') := (HB.out.cell (p := ⟨g, j, none⟩) (World.block_lt_of_cell? w1 _ hcell)).trans hcell
              have hle : (X.take (j + 1)).flatten.length = (X.take j).flatten.length + m' := by rw [flat_on X (by omega), List.length_append, htx.txt.len]
              have hfle := take_flat_le X (j + 1)
              rw [← HNN.out, hle] at hfle
              have HLE := Lib.hid hle
              clear hcell htx hle
              generalize hfl : (X.take j).flatten.length = fl at *
              clear hfl
              have hjX : (j : Int) < (X.length : Int) := by omega
              have hj0 : (0 : Int) ≤ (j : Int) := by omega
              go_wp2_with fail
              go_roundw
              case rel => exact ⟨j + 1, by omega, by go_num, by rw [HLE.out]; go_num, trivial⟩
              case measure => simp [intOf]; omega
            · obtain rfl : j = t + 1 := by omega
              have hfle := take_flat_le X (t + 1)
              rw [← HNN.out] at hfle
              obtain ⟨F, hF⟩ : ∃ F, F = (X.take (t + 1)).flatten := ⟨_, rfl⟩
              have hFp : X.flatten.take F.length = F := by rw [hF]; exact take_flat_prefix X (t + 1)
              rw [← hF] at HS hfle ⊢
              have HFF := Lib.hid (And.intro hF hFp)
              clear hF hFp
              obtain ⟨fl, hfl⟩ : ∃ fl, fl = F.length := ⟨_, rfl⟩
              rw [← hfl] at hfle ⊢
              have HFL := Lib.hid hfl
              clear hfl
              have hsl : ∀ W, (Instr.sliceAt 23 (.slice Aa N ca) none (some (.int .i64 (fl : Int))) none).run Tryd.prog W = .ok (.slice Aa fl ca) W := fun W => slice_to Aa N ca fl (by have := (own_txt H1.out.2.2.1).txt.cap; omega) W
              have hneq : ∀ W, (Op.equalIn 10000 31 (.agg (Vb (sha Ks (F ++ [1#8]))).toArray) (.agg (Vb (sha Ks (F ++ [1#8]))).toArray)).run Tryd.prog W = .ok true W := fun W => by
                rw [eql32 _ _ (sha_length _ _) (sha_length _ _)]
                simp
              have hlt : ((t + 1 : Nat) : Int) > (t : Int) := by omega
              go_wp2_with fail
              have hwr : IntKind.i64.wrap ((fl : Int) + 1) = (fl : Int) + 1 := IntWalk.i64_in _ (by omega)
              refine wp_region_held_drew (S := SS w1 X.flatten (some ⟨q, 0, none⟩) (F ++ [1#8])) (by kernel_rfl) HS.out.drew (fun hHeld => ?_)
              generalize wr.drew = wD at *
              refine wpAnyH_take (i := 0) (v := ?_) (by simp only [List.getElem?_toArray, List.getElem?_cons_zero]; rfl) (by kernel_rfl) (by kernel_rfl) (by kernel_rfl) (by exact fun _ _ _ h => h) (Or.inl ⟨by rfl, fun _ hSw => ?_⟩) (by assumption) ?_
              rotate_left
              · go_simp
                first | done | with_reducible rfl
              try simp only [Act.put, List.setIfInBounds_toArray, List.set_cons_zero, List.set_cons_succ]
              refine wpAnyH_take (i := 2) (v := ?_) (by simp only [List.getElem?_toArray, List.getElem?_cons_succ, List.getElem?_cons_zero]; rfl) (by kernel_rfl) (by kernel_rfl) (by kernel_rfl) (by exact fun _ _ _ h => h) (Or.inl ⟨by rfl, fun _ hSw => ?_⟩) (by assumption) ?_
              rotate_left
              · go_simp
                first | done | with_reducible rfl
              try simp only [Act.put, List.setIfInBounds_toArray, List.set_cons_zero, List.set_cons_succ]
              refine wpAnyH_take (i := 3) (v := ?_) (by simp only [List.getElem?_toArray, List.getElem?_cons_succ, List.getElem?_cons_zero]; rfl) (by kernel_rfl) (by kernel_rfl) (by kernel_rfl) (by exact fun _ _ _ h => h) (Or.inl ⟨by rfl, fun _ hSw => ?_⟩) (by assumption) ?_
              rotate_left
              · go_simp
                first | done | with_reducible rfl
              try simp only [Act.put, List.setIfInBounds_toArray, List.set_cons_zero, List.set_cons_succ]
              refine wpAnyH_ready (rs := [1]) (by kernel_rfl) (by simp) ?_
              refine (AllReadyH.cons (by simp only [List.getElem?_toArray, List.getElem?_cons_succ, List.getElem?_cons_zero]; rfl) (fun K hK => ?_) AllReadyH.nil)
              go_simp
              refine (len_any _ q ((fl : Int) + 1) (by rw [hHeld.forkStr.2.len, List.length_append, ← HFL.out, List.length_singleton, Int.natCast_add, Int.natCast_one])).mono ?_
              rintro e wX ⟨rfl, rfl⟩
              go_wp2_with fail
              refine hK.out _ _ hHeld (fun hHeld => ?_)
              clear hK K
              try simp only [Act.put, List.setIfInBounds_toArray, List.set_cons_zero, List.set_cons_succ]
              refine wpAnyH_take (i := 4) (v := ?_) (by simp only [List.getElem?_toArray, List.getElem?_cons_succ, List.getElem?_cons_zero]; rfl) (by kernel_rfl) (by kernel_rfl) (by kernel_rfl) (by exact fun _ _ _ h => h) (Or.inl ⟨by rfl, fun _ hSw => ?_⟩) (by assumption) ?_
              rotate_left
              · go_simp
                first | done | with_reducible rfl
              try simp only [Act.put, List.setIfInBounds_toArray, List.set_cons_zero, List.set_cons_succ]
              refine wpAnyH_take (i := 5) (v := ?_) (by simp only [List.getElem?_toArray, List.getElem?_cons_succ, List.getElem?_cons_zero]; rfl) (by kernel_rfl) (by kernel_rfl) (by kernel_rfl) (by exact fun _ _ _ h => h) (Or.inl ⟨by rfl, fun _ hSw => ?_⟩) (by assumption) ?_
              rotate_left
              · go_simp
                first | done | with_reducible rfl
              try simp only [Act.put, List.setIfInBounds_toArray, List.set_cons_zero, List.set_cons_succ]
              refine wpAnyH_take (i := 6) (v := ?_) (by simp only [List.getElem?_toArray, List.getElem?_cons_succ, List.getElem?_cons_zero]; rfl) (by kernel_rfl) (by kernel_rfl) (by kernel_rfl) (by exact fun _ _ _ h => h) (Or.inl ⟨by rfl, fun _ hSw => ?_⟩) (by assumption) ?_
              rotate_left
              · go_simp
                first | done | with_reducible rfl
              try simp only [Act.put, List.setIfInBounds_toArray, List.set_cons_zero, List.set_cons_succ]
              refine wpAnyH_take (i := 8) (v := ?_) (by simp only [List.getElem?_toArray, List.getElem?_cons_succ, List.getElem?_cons_zero]; rfl) (by kernel_rfl) (by kernel_rfl) (by kernel_rfl) (by exact fun _ _ _ h => h) (Or.inl ⟨by rfl, fun _ hSw => ?_⟩) (by assumption) ?_
              rotate_left
              · go_simp
                first | done | with_reducible rfl
              try simp only [Act.put, List.setIfInBounds_toArray, List.set_cons_zero, List.set_cons_succ]
              refine wpAnyH_take (i := 9) (v := ?_) (by simp only [List.getElem?_toArray, List.getElem?_cons_succ, List.getElem?_cons_zero]; rfl) (by kernel_rfl) (by kernel_rfl) (by kernel_rfl) (by exact fun _ _ _ h => h) (Or.inl ⟨by rfl, fun _ hSw => ?_⟩) (by assumption) ?_
              rotate_left
              · go_simp
                first | done | with_reducible rfl
              try simp only [Act.put, List.setIfInBounds_toArray, List.set_cons_zero, List.set_cons_succ]
              refine wpAnyH_take (i := 10) (v := ?_) (by simp only [List.getElem?_toArray, List.getElem?_cons_succ, List.getElem?_cons_zero]; rfl) (by kernel_rfl) (by kernel_rfl) (by kernel_rfl) (by exact fun _ _ _ h => h) (Or.inl ⟨by rfl, fun _ hSw => ?_⟩) (by assumption) ?_
              rotate_left
              · go_simp
                first | done | with_reducible rfl
              try simp only [Act.put, List.setIfInBounds_toArray, List.set_cons_zero, List.set_cons_succ]
              refine wpAnyH_ready (rs := [7, 11]) (by kernel_rfl) (by simp) ?_
              refine (AllReadyH.cons (by simp only [List.getElem?_toArray, List.getElem?_cons_succ, List.getElem?_cons_zero]; rfl) (fun K hK => ?_) (AllReadyH.cons (by simp only [List.getElem?_toArray, List.getElem?_cons_succ, List.getElem?_cons_zero]; rfl) (fun K hK => ?_) AllReadyH.nil))
              · go_simp
                refine (sum_any Ks _ (some ⟨q, 0, none⟩) (F ++ [1#8]) (H1.out.1.below hHeld.bel hw1) (Or.inr ⟨q, rfl, hHeld.forkStr.2⟩) (by rw [List.length_append, ← HFL.out]; simp; omega)).mono ?_
                rintro e whA1 ⟨rfl, hbhA1⟩
                have hA1 := hHeld.below hbhA1
                go_wp2_with fail
                refine hK.out _ _ hA1 (fun hHeld => ?_)
                clear hK K
                try simp only [Act.put, List.setIfInBounds_toArray, List.set_cons_zero, List.set_cons_succ]
                refine wpAnyH_ready (rs := [11]) (by kernel_rfl) (by simp) ?_
                refine (AllReadyH.cons (by simp only [List.getElem?_toArray, List.getElem?_cons_succ, List.getElem?_cons_zero]; rfl) (fun K hK => ?_) AllReadyH.nil)
                have hY := byte_txt whA1 w1.heap.size (by have := hHeld.lt; omega)
                go_simp
                refine hK.out _ _ (hHeld.below (below_new _ (.cells #[.int .u8 1] 5))) (fun hHeldN => ?_)
                clear hK K
                try simp only [Act.put, List.setIfInBounds_toArray, List.set_cons_zero, List.set_cons_succ]
                have hA := ((own_txt H1.out.2.2.1).below hHeldN.bel (Nat.le_refl _)).take fl (by omega)
                rw [HFL.out, HFF.out.2, ← HFL.out] at hA
                have hT := two_txts hA hY (by have := hHeldN.lt; exact this)
                rw [World.size_alloc] at hT
                refine wpAnyH_ready (rs := [12]) (by kernel_rfl) (by simp) ?_
                refine (AllReadyH.cons (by simp only [List.getElem?_toArray, List.getElem?_cons_succ, List.getElem?_cons_zero]; rfl) (fun K hK => ?_) AllReadyH.nil)
                go_simp
                refine hK.out _ _ (hHeldN.below (below_new _ (.cells #[.slice Aa fl ca, .slice (some ⟨whA1.heap.size, 0, none⟩) 1 1] 23))) (fun hHeldM => ?_)
                clear hK K
                try simp only [Act.put, List.setIfInBounds_toArray, List.set_cons_zero, List.set_cons_succ]
                refine wpAnyH_ready (rs := [13]) (by kernel_rfl) (by simp) ?_
                refine (AllReadyH.cons (by simp only [List.getElem?_toArray, List.getElem?_cons_succ, List.getElem?_cons_zero]; rfl) (fun K hK => ?_) AllReadyH.nil)
                go_simp
                refine (of_any Ks _ _ _ 2 2 [F, [1#8]] (H1.out.1.below hHeldM.bel hw1) hT (by omega) (by rw [two_flat, List.length_append, ← HFL.out]; simp; omega)).mono ?_
                rw [two_flat]
                rintro e wO ⟨rfl, hbO⟩
                have hO := hHeldM.below hbO
                go_wp2_with fail
                refine hK.out _ _ hO (fun hHeld => ?_)
                clear hK K
                try simp only [Act.put, List.setIfInBounds_toArray, List.set_cons_zero, List.set_cons_succ]
                refine wpAnyH_take (i := 14) (v := ?_) (by simp only [List.getElem?_toArray, List.getElem?_cons_succ, List.getElem?_cons_zero]; rfl) (by kernel_rfl) (by kernel_rfl) (by kernel_rfl) (by exact fun _ _ _ h => h) (Or.inl ⟨by rfl, fun _ hSw => ?_⟩) (by assumption) ?_
                rotate_left
                · go_simp
                  first | done | with_reducible rfl
                try simp only [Act.put, List.setIfInBounds_toArray, List.set_cons_zero, List.set_cons_succ]
                refine wpAnyH_take (i := 15) (v := ?_) (by simp only [List.getElem?_toArray, List.getElem?_cons_succ, List.getElem?_cons_zero]; rfl) (by kernel_rfl) (by kernel_rfl) (by kernel_rfl) (by exact fun _ _ _ h => h) (Or.inl ⟨by rfl, fun _ hSw => ?_⟩) (by assumption) ?_
                rotate_left
                · go_simp
                  first | done | with_reducible rfl
                try simp only [Act.put, List.setIfInBounds_toArray, List.set_cons_zero, List.set_cons_succ]
                refine wpAnyH_done (by kernel_rfl) ?_ _
                go_wp2_with fail
                go_meet
                rw [← HFF.out.1]
                exact hHeld
              · have hY := byte_txt wD w1.heap.size (by have := hHeld.lt; omega)
                go_simp
                refine hK.out _ _ (hHeld.below (below_new _ (.cells #[.int .u8 1] 5))) (fun hHeldN => ?_)
                clear hK K
                try simp only [Act.put, List.setIfInBounds_toArray, List.set_cons_zero, List.set_cons_succ]
                refine wpAnyH_ready (rs := [7, 12]) (by kernel_rfl) (by simp) ?_
                refine (AllReadyH.cons (by simp only [List.getElem?_toArray, List.getElem?_cons_succ, List.getElem?_cons_zero]; rfl) (fun K hK => ?_) (AllReadyH.cons (by simp only [List.getElem?_toArray, List.getElem?_cons_succ, List.getElem?_cons_zero]; rfl) (fun K hK => ?_) AllReadyH.nil))
                · go_simp
                  refine (sum_any Ks _ (some ⟨q, 0, none⟩) (F ++ [1#8]) (H1.out.1.below hHeldN.bel hw1) (Or.inr ⟨q, rfl, hHeldN.forkStr.2⟩) (by rw [List.length_append, ← HFL.out]; simp; omega)).mono ?_
                  rintro e whB1 ⟨rfl, hbhB1⟩
                  have hB1 := hHeldN.below hbhB1
                  go_wp2_with fail
                  refine hK.out _ _ hB1 (fun hHeld => ?_)
                  clear hK K
                  try simp only [Act.put, List.setIfInBounds_toArray, List.set_cons_zero, List.set_cons_succ]
                  have hY2 := hY.below hbhB1 (Nat.le_refl _)
                  have hA := ((own_txt H1.out.2.2.1).below hHeld.bel (Nat.le_refl _)).take fl (by omega)
                  rw [HFL.out, HFF.out.2, ← HFL.out] at hA
                  have hT := two_txts hA hY2 (by have := hHeld.lt; exact this)
                  refine wpAnyH_ready (rs := [12]) (by kernel_rfl) (by simp) ?_
                  refine (AllReadyH.cons (by simp only [List.getElem?_toArray, List.getElem?_cons_succ, List.getElem?_cons_zero]; rfl) (fun K hK => ?_) AllReadyH.nil)
                  go_simp
                  refine hK.out _ _ (hHeld.below (below_new _ (.cells #[.slice Aa fl ca, .slice (some ⟨wD.heap.size, 0, none⟩) 1 1] 23))) (fun hHeldM => ?_)
                  clear hK K
                  try simp only [Act.put, List.setIfInBounds_toArray, List.set_cons_zero, List.set_cons_succ]
                  refine wpAnyH_ready (rs := [13]) (by kernel_rfl) (by simp) ?_
                  refine (AllReadyH.cons (by simp only [List.getElem?_toArray, List.getElem?_cons_succ, List.getElem?_cons_zero]; rfl) (fun K hK => ?_) AllReadyH.nil)
                  go_simp
                  refine (of_any Ks _ _ _ 2 2 [F, [1#8]] (H1.out.1.below hHeldM.bel hw1) hT (by omega) (by rw [two_flat, List.length_append, ← HFL.out]; simp; omega)).mono ?_
                  rw [two_flat]
                  rintro e wO ⟨rfl, hbO⟩
                  have hO := hHeldM.below hbO
                  go_wp2_with fail
                  refine hK.out _ _ hO (fun hHeld => ?_)
                  clear hK K
                  try simp only [Act.put, List.setIfInBounds_toArray, List.set_cons_zero, List.set_cons_succ]
                  refine wpAnyH_take (i := 14) (v := ?_) (by simp only [List.getElem?_toArray, List.getElem?_cons_succ, List.getElem?_cons_zero]; rfl) (by kernel_rfl) (by kernel_rfl) (by kernel_rfl) (by exact fun _ _ _ h => h) (Or.inl ⟨by rfl, fun _ hSw => ?_⟩) (by assumption) ?_
                  rotate_left
                  · go_simp
                    first | done | with_reducible rfl
                  try simp only [Act.put, List.setIfInBounds_toArray, List.set_cons_zero, List.set_cons_succ]
                  refine wpAnyH_take (i := 15) (v := ?_) (by simp only [List.getElem?_toArray, List.getElem?_cons_succ, List.getElem?_cons_zero]; rfl) (by kernel_rfl) (by kernel_rfl) (by kernel_rfl) (by exact fun _ _ _ h => h) (Or.inl ⟨by rfl, fun _ hSw => ?_⟩) (by assumption) ?_
                  rotate_left
                  · go_simp
                    first | done | with_reducible rfl
                  try simp only [Act.put, List.setIfInBounds_toArray, List.set_cons_zero, List.set_cons_succ]
                  refine wpAnyH_done (by kernel_rfl) ?_ _
                  go_wp2_with fail
                  go_meet
                  rw [← HFF.out.1]
                  exact hHeld
                · have hA := ((own_txt H1.out.2.2.1).below hHeldN.bel (Nat.le_refl _)).take fl (by omega)
                  rw [HFL.out, HFF.out.2, ← HFL.out] at hA
                  have hT := two_txts hA hY (by have := hHeldN.lt; exact this)
                  rw [World.size_alloc] at hT
                  go_simp
                  refine hK.out _ _ (hHeldN.below (below_new _ (.cells #[.slice Aa fl ca, .slice (some ⟨wD.heap.size, 0, none⟩) 1 1] 23))) (fun hHeldM => ?_)
                  clear hK K
                  try simp only [Act.put, List.setIfInBounds_toArray, List.set_cons_zero, List.set_cons_succ]
                  refine wpAnyH_ready (rs := [7]) (by kernel_rfl) (by simp) ?_
                  refine (AllReadyH.cons (by simp only [List.getElem?_toArray, List.getElem?_cons_succ, List.getElem?_cons_zero]; rfl) (fun K hK => ?_) AllReadyH.nil)
                  go_simp
                  refine (sum_any Ks _ (some ⟨q, 0, none⟩) (F ++ [1#8]) (H1.out.1.below hHeldM.bel hw1) (Or.inr ⟨q, rfl, hHeldM.forkStr.2⟩) (by rw [List.length_append, ← HFL.out]; simp; omega)).mono ?_
                  rintro e whC1 ⟨rfl, hbhC1⟩
                  have hC1 := hHeldM.below hbhC1
                  go_wp2_with fail
                  refine hK.out _ _ hC1 (fun hHeld => ?_)
                  clear hK K
                  try simp only [Act.put, List.setIfInBounds_toArray, List.set_cons_zero, List.set_cons_succ]
                  refine wpAnyH_ready (rs := [13]) (by kernel_rfl) (by simp) ?_
                  refine (AllReadyH.cons (by simp only [List.getElem?_toArray, List.getElem?_cons_succ, List.getElem?_cons_zero]; rfl) (fun K hK => ?_) AllReadyH.nil)
                  go_simp
                  refine (of_any Ks _ _ _ 2 2 [F, [1#8]] (H1.out.1.below hHeld.bel hw1) (hT.below hbhC1 (Nat.le_refl _)) (by omega) (by rw [two_flat, List.length_append, ← HFL.out]; simp; omega)).mono ?_
                  rw [two_flat]
                  rintro e wO ⟨rfl, hbO⟩
                  have hO := hHeld.below hbO
                  go_wp2_with fail
                  refine hK.out _ _ hO (fun hHeld => ?_)
                  clear hK K
                  try simp only [Act.put, List.setIfInBounds_toArray, List.set_cons_zero, List.set_cons_succ]
                  refine wpAnyH_take (i := 14) (v := ?_) (by simp only [List.getElem?_toArray, List.getElem?_cons_succ, List.getElem?_cons_zero]; rfl) (by kernel_rfl) (by kernel_rfl) (by kernel_rfl) (by exact fun _ _ _ h => h) (Or.inl ⟨by rfl, fun _ hSw => ?_⟩) (by assumption) ?_
                  rotate_left
                  · go_simp
                    first | done | with_reducible rfl
                  try simp only [Act.put, List.setIfInBounds_toArray, List.set_cons_zero, List.set_cons_succ]
                  refine wpAnyH_take (i := 15) (v := ?_) (by simp only [List.getElem?_toArray, List.getElem?_cons_succ, List.getElem?_cons_zero]; rfl) (by kernel_rfl) (by kernel_rfl) (by kernel_rfl) (by exact fun _ _ _ h => h) (Or.inl ⟨by rfl, fun _ hSw => ?_⟩) (by assumption) ?_
                  rotate_left
                  · go_simp
                    first | done | with_reducible rfl
                  try simp only [Act.put, List.setIfInBounds_toArray, List.set_cons_zero, List.set_cons_succ]
                  refine wpAnyH_done (by kernel_rfl) ?_ _
                  go_wp2_with fail
                  go_meet
                  rw [← HFF.out.1]
                  exact hHeld
      case rest =>
        have HS7 := Lib.hid hcut
        clear hcut HS HF
        go_wp2_with fail
        refine (known_walk wc (H1.out.1.below HS7.out.bel hw1)).mono ?_
        rintro e w8 ⟨rfl, hb⟩
        have HS8 := Lib.hid (HS7.out.below hb)
        clear hb HS7
        go_wp2_with fail
        refine (sum_any Ks w8 (some ⟨w1.heap.size, 0, none⟩) X.flatten (H1.out.1.below HS8.out.bel hw1) HS8.out.ptr (by have := HCL.out; omega)).mono ?_
        rintro e w9 ⟨rfl, hb⟩
        have HS9 := Lib.hid (HS8.out.below hb)
        clear hb HS8
        go_wp2_with fail
        refine (make_tbl w9).mono ?_
        rintro e wa ⟨rfl, hb⟩
        have HSa := Lib.hid (HS9.out.below hb)
        clear hb HS9
        go_wp2_with fail
        refine (sum_tbl wa Aa N ca X.flatten ((own_txt H1.out.2.2.1).later (HSa.out.bel)) (by omega)).mono ?_
        rintro e wb ⟨rfl, hb⟩
        have HSb := Lib.hid (HSa.out.below hb)
        clear hb HSa
        have heq : ∀ W, (Op.equalIn 10000 31 (.agg (Vb (sha Ks X.flatten)).toArray) (.agg (Vb (sha Ks X.flatten)).toArray)).run Tryd.prog W = .ok true W := fun W => by
          rw [eql32 _ _ (sha_length _ _) (sha_length _ _)]
          simp
        go_wp2_with fail
        go_ret
        exact ⟨rfl, H1.out.2.2.2.trans (HSb.out.bel.mono H1.out.2.2.2.size)⟩

end Go.Proofs.YtkblpcegdfhmoaaDoor
