/-
  DigestTexts, walked: it returns true. Conditions: the argument's texts are known; the constants lie in their variable.
-/
import Derived.Test.YtkblpcegdfhmoaaDoorDRefSum
import Derived.Test.YtkblpcegdfhmoaaDoorDShort
import Derived.Test.YtkblpcegdfhmoaaDoorDPieces
import Derived.Deep.RegionHeld3
namespace Go.Proofs.YtkblpcegdfhmoaaDoor
open Go.RowKit

def Tbl : List Value := Wi start8.list ++ Wi Ks
theorem Tbl_length : Tbl.length = 72 := by simp [Tbl, Wi_length, S8.list, Ks, rootsZ]
theorem Tbl_one : ∀ u ∈ Tbl, u.oneCell' = true := by
  intro u hu
  rcases List.mem_append.1 hu with hu | hu
  · exact Wi_oneCell _ u hu
  · exact Wi_oneCell _ u hu
theorem make_tbl (w : World) : Calls Tryd.prog 9 #[] w fun e w' => e = .returned (.agg Tbl.toArray) ∧ Below w.heap.size w w' := make_any w
theorem sum_tbl (w : World) (A : Option Addr) (n c : Nat) (bs : List B8) (ht : TxtN w w.heap.size A n c bs) (hn : n ≤ 4000) :
    Calls Tryd.prog 10 #[.agg Tbl.toArray, .slice A n c] w fun e w' => e = .returned (.agg (Vb (sha Ks bs)).toArray) ∧ Below w.heap.size w w' := refsum_any w A n c bs ht.txt hn

/-- What the law keeps: the texts, all of them, the table. -/
structure DT (w0 : World) (X : List (List B8)) (N : Nat) (vx va : Value) (p : Nat) (w : World) : Prop where
  roots : Roots Ks w
  x : OTexts w0.heap.size w vx X
  a : w.ownsRow w0.heap.size 5 1 va N (Vb X.flatten)
  tab : Blk w p 29 Tbl
  bel : Below w0.heap.size w0 w
theorem DT.below {w0 w w' : World} {X : List (List B8)} {N p : Nat} {vx va : Value} (h : DT w0 X N vx va p w) (hb : Below w.heap.size w w') : DT w0 X N vx va p w' :=
  ⟨h.roots.below hb h.roots.pos, h.x.below hb, ownsRow_only (S := []) h.a (Only.of_below hb) (by simp), h.tab.below hb h.tab.lt, h.bel.trans (hb.mono h.bel.size)⟩
theorem DT.drew {w0 w : World} {X : List (List B8)} {N p : Nat} {vx va : Value} (h : DT w0 X N vx va p w) : DT w0 X N vx va p w.drew := h.below ⟨rfl, rfl, rfl, Nat.le_refl _, fun _ _ => rfl⟩
structure DF (w0 : World) (X : List (List B8)) (N : Nat) (vx va : Value) (p q : Nat) (d : List B8) (w : World) : Prop where
  dt : DT w0 X N vx va p w
  f : Blk w q 31 (Vb d)
theorem DF.below {w0 w w' : World} {X : List (List B8)} {N p q : Nat} {vx va : Value} {d : List B8} (h : DF w0 X N vx va p q d w) (hb : Below w.heap.size w w') : DF w0 X N vx va p q d w' := ⟨h.dt.below hb, h.f.below hb h.f.lt⟩
theorem DF.drew {w0 w : World} {X : List (List B8)} {N p q : Nat} {vx va : Value} {d : List B8} (h : DF w0 X N vx va p q d w) : DF w0 X N vx va p q d w.drew := h.below ⟨rfl, rfl, rfl, Nat.le_refl _, fun _ _ => rfl⟩
theorem below_new (w : World) (o : Obj) : Below w.heap.size w (w.alloc o) := (Below.refl _ _).alloc (Nat.le_refl _) _
theorem TxtN.later {w w' : World} {A : Option Addr} {n c : Nat} {bs : List B8} (h : TxtN w w.heap.size A n c bs) (hb : Below w.heap.size w w') : TxtN w' w'.heap.size A n c bs := (h.below hb (Nat.le_refl _)).at (Nat.le_refl _)

theorem fin_store {w0 wA wB : World} {X : List (List B8)} {N p : Nat} {vx va : Value} {d : List B8} (hA : DT w0 X N vx va p wA) (hb : Below wA.heap.size wA wB) (hq : Blk wB wA.heap.size 31 (List.replicate 32 (.int .u8 0))) (hd : d.length = 32) :
    DF w0 X N vx va p wA.heap.size d (wB.setCells wA.heap.size 0 (Vb d)) := by
  have hB := hq.setCells (Vb d) 0 (by simp [Vb_length, hd])
  rw [over_whole (by simp [Vb_length, hd])] at hB
  have hO := Only.setCells (S := [wA.heap.size]) (Vb d) wA.heap.size 0 (Only.refl _ wB) (.inl (by simp))
  exact ⟨hA.below (hb.trans (hO.below (B := wA.heap.size) hb.size (by simp))), hB⟩

set_option maxHeartbeats 2000000 in
set_option maxRecDepth 100000 in
theorem texts_walk (w : World) (L : Option Addr) (n c : Nat) (xs : List (List B8)) (ht : TxtsN w w.heap.size L n xs) (hn : n ≤ 9223372036854775807) (hK : Roots Ks w) :
    Calls Tryd.prog 3 #[.slice L n c] w fun e w' => e = .returned (.bool true) ∧ Below w.heap.size w w' := by
  have hpos := hK.pos
  have HK := Lib.hid hK
  have i29 : (Tryd.prog.info? 29).map (·.size) = some Tbl.length := by rw [Tbl_length]; kernel_rfl
  have I29 := Lib.hid i29
  have hu29 := Tryd.underlying29
  have hu31 := Tryd.underlying31
  have HU := Lib.hid (And.intro hu29 hu31)
  have hz29 := zero29
  clear hK i29 hu29 hu31
  go_enter Tryd.func3, Tryd.ntmps3
  go_wp2_with fail
  refine (texts_any w L n c xs ht hn).mono ?_
  clear ht
  rintro e w1 ⟨vx, va, rfl, hox, hoa, hb⟩
  obtain ⟨X, hX⟩ : ∃ X, X = cutT xs := ⟨_, rfl⟩
  have hX12 := cut_len xs
  have hXe := cut_each xs
  have hXa := cut_all xs
  rw [← hX] at hox hoa hX12 hXe hXa
  clear hX
  have HE := Lib.hid hXe
  have H1 := Lib.hid (And.intro (HK.out.below hb hpos) (And.intro hox (And.intro hoa hb)))
  clear hox hoa hb hXe
  go_wp2_with fail
  refine (make_tbl w1).mono ?_
  rintro e w2 ⟨rfl, hb⟩
  have hs2 : w1.heap.size ≤ w2.heap.size := hb.size
  have H2 := Lib.hid (And.intro (H1.out.1.below hb H1.out.1.pos) (And.intro (H1.out.2.1.below hb) (And.intro (ownsRow_only (S := []) H1.out.2.2.1 (Only.of_below hb) (by simp)) (H1.out.2.2.2.trans (hb.mono H1.out.2.2.2.size)))))
  clear hb H1
  go_upto_region 3 with (refine wpList_store_blk rfl 29 (.tmp 5) (.tmp 14) rfl w2.heap.size 0 Tbl rfl rfl (Blk.new w2 29 (List.replicate 72 (.int .i64 0))) (by simp [Tbl_length]) I29.out Tbl_one ?_; intro w3 hA hO; rw [over_whole (by simp [Tbl_length])] at hA; have hB3 : Below w2.heap.size w2 w3 := (below_new w2 _).trans (hO.below (B := w2.heap.size) (by simp) (by simp)); have H3 := Lib.hid (DT.mk (H2.out.1.below hB3 H2.out.1.pos) (H2.out.2.1.below hB3) (ownsRow_only (S := []) H2.out.2.2.1 (Only.of_below hB3) (by simp)) hA (H2.out.2.2.2.trans (hB3.mono H2.out.2.2.2.size))); clear hA hO hB3)
  clear H2 hs2
  generalize w2.heap.size = p at *
  obtain ⟨N, hN⟩ : ∃ N, N = X.flatten.length := ⟨_, rfl⟩
  rw [← hN] at H3 hXa
  have HNN := Lib.hid hN
  clear hN
  obtain ⟨A, cx, rfl, -⟩ := H3.out.x.form
  obtain ⟨Aa, ca, rfl, -⟩ := own_form H3.out.a
  obtain ⟨M, hM⟩ : ∃ M, M = (framesOf X).length := ⟨_, rfl⟩
  have hM2 : M ≤ 304 * 13 := by
    have := frames_small X HE.out
    omega
  have HM := Lib.hid hM
  clear hM
  obtain ⟨d, hd⟩ : ∃ d, d = sha Ks (framesOf X) := ⟨_, rfl⟩
  have hdl : d.length = 32 := by rw [hd]; exact sha_length _ _
  have HD := Lib.hid (And.intro hd hdl)
  have i31 : (Tryd.prog.info? 31).map (·.size) = some (Vb d).length := info31.trans (by rw [Vb_length, hdl])
  have I31 := Lib.hid i31
  clear hd hdl i31
  simp only [Act.put]
  go_cut [6] (fun v wx => ∃ q, v = .pointer (some ⟨q, 0, none⟩) ∧ DF w X N (.slice A X.length cx) (.slice Aa N ca) p q d wx)
  case first =>
    have hz31 : ∀ W, (zeroValue 31).run Tryd.prog W = .ok (.agg (List.replicate 32 (Value.int .u8 0)).toArray) W := fun W => by kernel_rfl
    refine wp_region_held_drew (S := DT w X N (.slice A X.length cx) (.slice Aa N ca) p) (by kernel_rfl) H3.out.drew (fun hHeld => ?_)
    generalize w3.drew = wD at *
    refine wpAnyH_take (i := 0) (v := .agg (List.toArray (Tbl))) (by simp only [List.getElem?_toArray, List.getElem?_cons_zero]; rfl) (by kernel_rfl) (by kernel_rfl) (by kernel_rfl) (by exact fun _ _ _ h => h) (yieldsIf_load_mid (by rfl) _ _ rfl p 0 rfl (Tbl) _ (fun w h => h.tab.range) HU.out.1 rfl I29.out) (by assumption) ?_
    try simp only [Act.put, List.setIfInBounds_toArray, List.set_cons_zero, List.set_cons_succ]
    refine wpAnyH_take (i := 1) (v := ?_) (by simp only [List.getElem?_toArray, List.getElem?_cons_succ, List.getElem?_cons_zero]; rfl) (by kernel_rfl) (by kernel_rfl) (by kernel_rfl) (by exact fun _ _ _ h => h) (Or.inl ⟨by rfl, fun _ hSw => ?_⟩) (by assumption) ?_
    rotate_left
    · go_simp
      first | done | with_reducible rfl
    try simp only [Act.put, List.setIfInBounds_toArray, List.set_cons_zero, List.set_cons_succ]
    refine wpAnyH_ready (rs := [2, 4]) (by kernel_rfl) (by simp) ?_
    refine (AllReadyH.cons (by simp only [List.getElem?_toArray, List.getElem?_cons_succ, List.getElem?_cons_zero]; rfl) (fun K hK => ?_) (AllReadyH.cons (by simp only [List.getElem?_toArray, List.getElem?_cons_succ, List.getElem?_cons_zero]; rfl) (fun K hK => ?_) AllReadyH.nil))
    · -- Frame first
      go_simp
      refine (frame_ref _ A X.length cx X hHeld.x.txtsN (by omega) HE.out).mono ?_
      rintro e wF ⟨vf, rfl, hof, hbF⟩
      rw [← HM.out] at hof
      obtain ⟨Af, cf, rfl, htf⟩ := own_form hof
      have htF : TxtN wF wF.heap.size Af M cf (framesOf X) := own_txt hof
      have hDF := hHeld.below hbF
      clear hof htf
      go_wp2_with fail
      refine hK.out _ _ hDF (fun hHeld => ?_)
      clear hK K
      try simp only [Act.put, List.setIfInBounds_toArray, List.set_cons_zero, List.set_cons_succ]
      refine wpAnyH_ready (rs := [3, 4]) (by kernel_rfl) (by simp) ?_
      refine (AllReadyH.cons (by simp only [List.getElem?_toArray, List.getElem?_cons_succ, List.getElem?_cons_zero]; rfl) (fun K hK => ?_) (AllReadyH.cons (by simp only [List.getElem?_toArray, List.getElem?_cons_succ, List.getElem?_cons_zero]; rfl) (fun K hK => ?_) AllReadyH.nil))
      · -- then Sum
        go_simp
        refine (sum_tbl _ Af M cf (framesOf X) htF (by omega)).mono ?_
        rw [← HD.out.1]
        rintro e wS ⟨rfl, hbS⟩
        have hDS := hHeld.below hbS
        go_wp2_with fail
        refine hK.out _ _ hDS (fun hHeld => ?_)
        clear hK K
        try simp only [Act.put, List.setIfInBounds_toArray, List.set_cons_zero, List.set_cons_succ]
        refine wpAnyH_ready (rs := [4]) (by kernel_rfl) (by simp) ?_
        refine (AllReadyH.cons (by simp only [List.getElem?_toArray, List.getElem?_cons_succ, List.getElem?_cons_zero]; rfl) (fun K hK => ?_) AllReadyH.nil)
        go_simp
        refine hK.out _ _ (hHeld.below (below_new _ _)) (fun hHeldA => ?_)
        clear hK K
        try simp only [Act.put, List.setIfInBounds_toArray, List.set_cons_zero, List.set_cons_succ]
        refine wpAnyH_ready (rs := [5]) (by kernel_rfl) (by simp) ?_
        refine (AllReadyH.cons (by simp only [List.getElem?_toArray, List.getElem?_cons_succ, List.getElem?_cons_zero]; rfl) (fun K hK => ?_) AllReadyH.nil)
        rw [if_pos (by first | trivial | rfl)]
        have hfin := fin_store hHeld (below_new wS _) (Blk.new wS 31 (List.replicate 32 (.int .u8 0))) HD.out.2
        refine wp_store_mid _ (.tmp 6) (.tmp 18) rfl wS.heap.size 0 (Vb d).toArray rfl rfl (Blk.there (Blk.new wS 31 (List.replicate 32 (.int .u8 0))) (by simp [Vb_length, HD.out.2])) (by simpa using I31.out) (all_oneCell_toArray (Vb_oneCell _)) ?_
        refine hK.out _ _ hfin.dt (fun hHeldZ => ?_)
        clear hK K
        try simp only [Act.put]
        refine wpAnyH_done (by kernel_rfl) ?_ _
        go_wp2_with fail
        go_meet
        exact ⟨_, rfl, hfin⟩
      · -- then the variable
        go_simp
        refine hK.out _ _ (hHeld.below (below_new _ _)) (fun hHeldA => ?_)
        clear hK K
        try simp only [Act.put, List.setIfInBounds_toArray, List.set_cons_zero, List.set_cons_succ]
        refine wpAnyH_ready (rs := [3]) (by kernel_rfl) (by simp) ?_
        refine (AllReadyH.cons (by simp only [List.getElem?_toArray, List.getElem?_cons_succ, List.getElem?_cons_zero]; rfl) (fun K hK => ?_) AllReadyH.nil)
        go_simp
        refine (sum_tbl _ Af M cf (framesOf X) (htF.later (below_new _ _)) (by omega)).mono ?_
        rw [← HD.out.1]
        rintro e wS ⟨rfl, hbS⟩
        have hDS := hHeldA.below hbS
        go_wp2_with fail
        refine hK.out _ _ hDS (fun hHeld => ?_)
        clear hK K
        try simp only [Act.put, List.setIfInBounds_toArray, List.set_cons_zero, List.set_cons_succ]
        refine wpAnyH_ready (rs := [5]) (by kernel_rfl) (by simp) ?_
        refine (AllReadyH.cons (by simp only [List.getElem?_toArray, List.getElem?_cons_succ, List.getElem?_cons_zero]; rfl) (fun K hK => ?_) AllReadyH.nil)
        rw [if_pos (by first | trivial | rfl)]
        have hfin := fin_store hDF ((below_new wF _).trans (hbS.mono (by simp))) ((Blk.new wF 31 (List.replicate 32 (.int .u8 0))).below hbS (by simp)) HD.out.2
        refine wp_store_mid _ (.tmp 6) (.tmp 18) rfl wF.heap.size 0 (Vb d).toArray rfl rfl (Blk.there ((Blk.new wF 31 (List.replicate 32 (.int .u8 0))).below hbS (by simp)) (by simp [Vb_length, HD.out.2])) (by simpa using I31.out) (all_oneCell_toArray (Vb_oneCell _)) ?_
        refine hK.out _ _ hfin.dt (fun hHeldZ => ?_)
        clear hK K
        try simp only [Act.put]
        refine wpAnyH_done (by kernel_rfl) ?_ _
        go_wp2_with fail
        go_meet
        exact ⟨_, rfl, hfin⟩
    · -- the variable first
      have hHeld0 := hHeld
      go_simp
      refine hK.out _ _ (hHeld.below (below_new _ _)) (fun hHeldB => ?_)
      clear hK K
      try simp only [Act.put, List.setIfInBounds_toArray, List.set_cons_zero, List.set_cons_succ]
      refine wpAnyH_ready (rs := [2]) (by kernel_rfl) (by simp) ?_
      refine (AllReadyH.cons (by simp only [List.getElem?_toArray, List.getElem?_cons_succ, List.getElem?_cons_zero]; rfl) (fun K hK => ?_) AllReadyH.nil)
      go_simp
      refine (frame_ref _ A X.length cx X hHeldB.x.txtsN (by omega) HE.out).mono ?_
      rintro e wF ⟨vf, rfl, hof, hbF⟩
      rw [← HM.out] at hof
      obtain ⟨Af, cf, rfl, htf⟩ := own_form hof
      have htF : TxtN wF wF.heap.size Af M cf (framesOf X) := own_txt hof
      have hDF := hHeldB.below hbF
      clear hof htf
      go_wp2_with fail
      refine hK.out _ _ hDF (fun hHeld => ?_)
      clear hK K
      try simp only [Act.put, List.setIfInBounds_toArray, List.set_cons_zero, List.set_cons_succ]
      refine wpAnyH_ready (rs := [3]) (by kernel_rfl) (by simp) ?_
      refine (AllReadyH.cons (by simp only [List.getElem?_toArray, List.getElem?_cons_succ, List.getElem?_cons_zero]; rfl) (fun K hK => ?_) AllReadyH.nil)
      go_simp
      refine (sum_tbl _ Af M cf (framesOf X) htF (by omega)).mono ?_
      rw [← HD.out.1]
      rintro e wS ⟨rfl, hbS⟩
      have hDS := hHeld.below hbS
      go_wp2_with fail
      refine hK.out _ _ hDS (fun hHeld => ?_)
      clear hK K
      try simp only [Act.put, List.setIfInBounds_toArray, List.set_cons_zero, List.set_cons_succ]
      refine wpAnyH_ready (rs := [5]) (by kernel_rfl) (by simp) ?_
      refine (AllReadyH.cons (by simp only [List.getElem?_toArray, List.getElem?_cons_succ, List.getElem?_cons_zero]; rfl) (fun K hK => ?_) AllReadyH.nil)
      rw [if_pos (by first | trivial | rfl)]
      have hfin := fin_store hHeld0 ((below_new wD _).trans ((hbF.mono (by simp)).trans (hbS.mono (by have := hbF.size; simp at this; omega)))) (((Blk.new wD 31 (List.replicate 32 (.int .u8 0))).below hbF (by simp)).below hbS (by have := hbF.size; simp at this; omega)) HD.out.2
      refine wp_store_mid _ (.tmp 6) (.tmp 18) rfl wD.heap.size 0 (Vb d).toArray rfl rfl (Blk.there (((Blk.new wD 31 (List.replicate 32 (.int .u8 0))).below hbF (by simp)).below hbS (by have := hbF.size; simp at this; omega)) (by simp [Vb_length, HD.out.2])) (by simpa using I31.out) (all_oneCell_toArray (Vb_oneCell _)) ?_
      refine hK.out _ _ hfin.dt (fun hHeldZ => ?_)
      clear hK K
      try simp only [Act.put]
      refine wpAnyH_done (by kernel_rfl) ?_ _
      go_wp2_with fail
      go_meet
      exact ⟨_, rfl, hfin⟩
  case rest =>
    obtain ⟨q, rfl, hdf⟩ := hcut
    have HF := Lib.hid hdf
    clear hdf H3
    go_wp2_with fail
    go_loopw [7, 8] (fun nv iv wr => ∃ k : Nat, k ≤ 8 ∧ iv = .int .i64 k ∧ nv = .int .u64 (beN d k : Nat) ∧ wr = wc) (fun _ iv _ => 8 - (intOf iv).toNat)
    case atStart => exact ⟨0, by omega, rfl, rfl, rfl⟩
    case round =>
      obtain ⟨k, hk, rfl, rfl, rfl⟩ := hrel
      by_cases hk8 : k < 8
      · have hc : wr.cell? ⟨q, k, none⟩ = some (.int .u8 (nb (d.getD k 0))) := by
          rw [HF.out.f.cell, Vb_get, List.getD_eq_getElem?_getD, List.getElem?_eq_getElem (by rw [HD.out.2]; omega)]
          rfl
        have hs := beN_7 d k hk8
        have hb := (d.getD k 0).isLt
        have HNX := Lib.hid (show beN d (k + 1) = 256 * beN d k + (d.getD k 0).toNat from rfl)
        unfold nb at hc
        generalize beN d k = m at *
        generalize (d.getD k 0).toNat = b at *
        have hki : (k : Int) < 8 := by omega
        have hk0 : (0 : Int) ≤ (k : Int) := by omega
        go_wp2_with fail
        go_roundw
        case rel => exact ⟨k + 1, by omega, by go_num, by rw [HNX.out]; go_num, trivial⟩
        case measure => simp [intOf]; omega
      · obtain rfl : k = 8 := by omega
        go_wp2_with fail
        have heq1 : ∀ W, (Op.equalIn 10000 31 (.agg (Vb (sha Ks X.flatten)).toArray) (.agg (Vb (sha Ks X.flatten)).toArray)).run Tryd.prog W = .ok true W := fun W => by
          rw [eql32 _ _ (sha_length _ _) (sha_length _ _)]
          simp
        have heq2 : ∀ W, (Op.equalIn 10000 31 (.agg (Vb d).toArray) (.agg (Vb d).toArray)).run Tryd.prog W = .ok true W := fun W => by
          rw [eql32 _ _ HD.out.2 HD.out.2]
          simp
        refine wp_region_held_drew (S := DF w X N (.slice A X.length cx) (.slice Aa N ca) p q d) (by kernel_rfl) HF.out.drew (fun hHeld => ?_)
        generalize wr.drew = wD at *
        obtain ⟨n8, hn8⟩ : ∃ n8, n8 = beN d 8 := ⟨_, rfl⟩
        rw [← hn8]
        have HN8 := Lib.hid hn8
        clear hn8
        refine wpAnyH_ready (rs := [0]) (by kernel_rfl) (by simp) ?_
        refine (AllReadyH.cons (by simp only [List.getElem?_toArray, List.getElem?_cons_zero]; rfl) (fun K hK => ?_) AllReadyH.nil)
        go_simp
        refine (known_walk _ hHeld.dt.roots).mono ?_
        rintro e wX ⟨rfl, hbX⟩
        have hX := hHeld.below hbX
        go_wp2_with fail
        refine hK.out _ _ hX (fun hHeld => ?_)
        clear hK K
        try simp only [Act.put, List.setIfInBounds_toArray, List.set_cons_zero, List.set_cons_succ]
        refine wpAnyH_take (i := 1) (v := ?_) (by simp only [List.getElem?_toArray, List.getElem?_cons_succ, List.getElem?_cons_zero]; rfl) (by kernel_rfl) (by kernel_rfl) (by kernel_rfl) (by exact fun _ _ _ h => h) (Or.inl ⟨by rfl, fun _ hSw => ?_⟩) (by assumption) ?_
        rotate_left
        · go_simp
          first | done | with_reducible rfl
        try simp only [Act.put, List.setIfInBounds_toArray, List.set_cons_zero, List.set_cons_succ]
        refine wpAnyH_take (i := 2) (v := ?_) (by simp only [List.getElem?_toArray, List.getElem?_cons_succ, List.getElem?_cons_zero]; rfl) (by kernel_rfl) (by kernel_rfl) (by kernel_rfl) (by exact fun _ _ _ h => h) (Or.inl ⟨by rfl, fun _ hSw => ?_⟩) (by assumption) ?_
        rotate_left
        · go_simp
          first | done | with_reducible rfl
        try simp only [Act.put, List.setIfInBounds_toArray, List.set_cons_zero, List.set_cons_succ]
        refine wpAnyH_take (i := 4) (v := .agg (List.toArray (Tbl))) (by simp only [List.getElem?_toArray, List.getElem?_cons_succ, List.getElem?_cons_zero]; rfl) (by kernel_rfl) (by kernel_rfl) (by kernel_rfl) (by exact fun _ _ _ h => h) (yieldsIf_load_mid (by rfl) _ _ rfl p 0 rfl (Tbl) _ (fun w h => h.dt.tab.range) HU.out.1 rfl I29.out) (by assumption) ?_
        try simp only [Act.put, List.setIfInBounds_toArray, List.set_cons_zero, List.set_cons_succ]
        refine wpAnyH_take (i := 5) (v := ?_) (by simp only [List.getElem?_toArray, List.getElem?_cons_succ, List.getElem?_cons_zero]; rfl) (by kernel_rfl) (by kernel_rfl) (by kernel_rfl) (by exact fun _ _ _ h => h) (Or.inl ⟨by rfl, fun _ hSw => ?_⟩) (by assumption) ?_
        rotate_left
        · go_simp
          first | done | with_reducible rfl
        try simp only [Act.put, List.setIfInBounds_toArray, List.set_cons_zero, List.set_cons_succ]
        refine wpAnyH_ready (rs := [3]) (by kernel_rfl) (by simp) ?_
        refine (AllReadyH.cons (by simp only [List.getElem?_toArray, List.getElem?_cons_succ, List.getElem?_cons_zero]; rfl) (fun K hK => ?_) AllReadyH.nil)
        go_simp
        refine (of_any Ks _ _ A X.length cx X hHeld.dt.roots hHeld.dt.x.txtsN.txts (by omega) (by rw [← HNN.out]; omega)).mono ?_
        rintro e wX ⟨rfl, hbX⟩
        have hX := hHeld.below hbX
        go_wp2_with fail
        refine hK.out _ _ hX (fun hHeld => ?_)
        clear hK K
        try simp only [Act.put, List.setIfInBounds_toArray, List.set_cons_zero, List.set_cons_succ]
        refine wpAnyH_ready (rs := [6]) (by kernel_rfl) (by simp) ?_
        refine (AllReadyH.cons (by simp only [List.getElem?_toArray, List.getElem?_cons_succ, List.getElem?_cons_zero]; rfl) (fun K hK => ?_) AllReadyH.nil)
        go_simp
        refine (sum_tbl _ Aa N ca X.flatten (own_txt hHeld.dt.a) (by omega)).mono ?_
        rintro e wX ⟨rfl, hbX⟩
        have hX := hHeld.below hbX
        go_wp2_with fail
        refine hK.out _ _ hX (fun hHeld => ?_)
        clear hK K
        try simp only [Act.put, List.setIfInBounds_toArray, List.set_cons_zero, List.set_cons_succ]
        refine wpAnyH_take (i := 7) (v := ?_) (by simp only [List.getElem?_toArray, List.getElem?_cons_succ, List.getElem?_cons_zero]; rfl) (by kernel_rfl) (by kernel_rfl) (by kernel_rfl) (by exact fun _ _ _ h => h) (Or.inl ⟨by rfl, fun _ hSw => ?_⟩) (by assumption) ?_
        rotate_left
        · go_simp
          first | done | with_reducible rfl
        try simp only [Act.put, List.setIfInBounds_toArray, List.set_cons_zero, List.set_cons_succ]
        refine wpAnyH_take (i := 8) (v := ?_) (by simp only [List.getElem?_toArray, List.getElem?_cons_succ, List.getElem?_cons_zero]; rfl) (by kernel_rfl) (by kernel_rfl) (by kernel_rfl) (by exact fun _ _ _ h => h) (Or.inl ⟨by rfl, fun _ hSw => ?_⟩) (by assumption) ?_
        rotate_left
        · go_simp
          first | done | with_reducible rfl
        try simp only [Act.put, List.setIfInBounds_toArray, List.set_cons_zero, List.set_cons_succ]
        refine wpAnyH_take (i := 9) (v := ?_) (by simp only [List.getElem?_toArray, List.getElem?_cons_succ, List.getElem?_cons_zero]; rfl) (by kernel_rfl) (by kernel_rfl) (by kernel_rfl) (by exact fun _ _ _ h => h) (Or.inl ⟨by rfl, fun _ hSw => ?_⟩) (by assumption) ?_
        rotate_left
        · go_simp
          first | done | with_reducible rfl
        try simp only [Act.put, List.setIfInBounds_toArray, List.set_cons_zero, List.set_cons_succ]
        refine wpAnyH_take (i := 10) (v := ?_) (by simp only [List.getElem?_toArray, List.getElem?_cons_succ, List.getElem?_cons_zero]; rfl) (by kernel_rfl) (by kernel_rfl) (by kernel_rfl) (by exact fun _ _ _ h => h) (Or.inl ⟨by rfl, fun _ hSw => ?_⟩) (by assumption) ?_
        rotate_left
        · go_simp
          first | done | with_reducible rfl
        try simp only [Act.put, List.setIfInBounds_toArray, List.set_cons_zero, List.set_cons_succ]
        refine wpAnyH_take (i := 12) (v := .agg (List.toArray (Vb d))) (by simp only [List.getElem?_toArray, List.getElem?_cons_succ, List.getElem?_cons_zero]; rfl) (by kernel_rfl) (by kernel_rfl) (by kernel_rfl) (by exact fun _ _ _ h => h) (yieldsIf_load_mid (by rfl) _ _ rfl q 0 rfl (Vb d) _ (fun w h => h.f.range) HU.out.2 rfl I31.out) (by assumption) ?_
        try simp only [Act.put, List.setIfInBounds_toArray, List.set_cons_zero, List.set_cons_succ]
        refine wpAnyH_ready (rs := [11]) (by kernel_rfl) (by simp) ?_
        refine (AllReadyH.cons (by simp only [List.getElem?_toArray, List.getElem?_cons_succ, List.getElem?_cons_zero]; rfl) (fun K hK => ?_) AllReadyH.nil)
        go_simp
        refine (framed_any Ks _ A X.length cx X hHeld.dt.roots hHeld.dt.x.txtsN.txts (by omega) HE.out).mono ?_
        rw [← HD.out.1]
        rintro e wX ⟨rfl, hbX⟩
        have hX := hHeld.below hbX
        go_wp2_with fail
        refine hK.out _ _ hX (fun hHeld => ?_)
        clear hK K
        try simp only [Act.put, List.setIfInBounds_toArray, List.set_cons_zero, List.set_cons_succ]
        refine wpAnyH_take (i := 13) (v := ?_) (by simp only [List.getElem?_toArray, List.getElem?_cons_succ, List.getElem?_cons_zero]; rfl) (by kernel_rfl) (by kernel_rfl) (by kernel_rfl) (by exact fun _ _ _ h => h) (Or.inl ⟨by rfl, fun _ hSw => ?_⟩) (by assumption) ?_
        rotate_left
        · go_simp
          first | done | with_reducible rfl
        try simp only [Act.put, List.setIfInBounds_toArray, List.set_cons_zero, List.set_cons_succ]
        refine wpAnyH_take (i := 14) (v := ?_) (by simp only [List.getElem?_toArray, List.getElem?_cons_succ, List.getElem?_cons_zero]; rfl) (by kernel_rfl) (by kernel_rfl) (by kernel_rfl) (by exact fun _ _ _ h => h) (Or.inl ⟨by rfl, fun _ hSw => ?_⟩) (by assumption) ?_
        rotate_left
        · go_simp
          first | done | with_reducible rfl
        try simp only [Act.put, List.setIfInBounds_toArray, List.set_cons_zero, List.set_cons_succ]
        refine wpAnyH_take (i := 15) (v := ?_) (by simp only [List.getElem?_toArray, List.getElem?_cons_succ, List.getElem?_cons_zero]; rfl) (by kernel_rfl) (by kernel_rfl) (by kernel_rfl) (by exact fun _ _ _ h => h) (Or.inl ⟨by rfl, fun _ hSw => ?_⟩) (by assumption) ?_
        rotate_left
        · go_simp
          first | done | with_reducible rfl
        try simp only [Act.put, List.setIfInBounds_toArray, List.set_cons_zero, List.set_cons_succ]
        refine wpAnyH_take (i := 16) (v := ?_) (by simp only [List.getElem?_toArray, List.getElem?_cons_succ, List.getElem?_cons_zero]; rfl) (by kernel_rfl) (by kernel_rfl) (by kernel_rfl) (by exact fun _ _ _ h => h) (Or.inl ⟨by rfl, fun _ hSw => ?_⟩) (by assumption) ?_
        rotate_left
        · go_simp
          first | done | with_reducible rfl
        try simp only [Act.put, List.setIfInBounds_toArray, List.set_cons_zero, List.set_cons_succ]
        refine wpAnyH_take (i := 18) (v := ?_) (by simp only [List.getElem?_toArray, List.getElem?_cons_succ, List.getElem?_cons_zero]; rfl) (by kernel_rfl) (by kernel_rfl) (by kernel_rfl) (by exact fun _ _ _ h => h) (Or.inl ⟨by rfl, fun _ hSw => ?_⟩) (by assumption) ?_
        rotate_left
        · go_simp
          first | done | with_reducible rfl
        try simp only [Act.put, List.setIfInBounds_toArray, List.set_cons_zero, List.set_cons_succ]
        refine wpAnyH_ready (rs := [17]) (by kernel_rfl) (by simp) ?_
        refine (AllReadyH.cons (by simp only [List.getElem?_toArray, List.getElem?_cons_succ, List.getElem?_cons_zero]; rfl) (fun K hK => ?_) AllReadyH.nil)
        go_simp
        refine (short_any Ks _ A X.length cx X hHeld.dt.roots hHeld.dt.x.txtsN.txts (by omega) HE.out).mono ?_
        rw [← HD.out.1, ← HN8.out]
        rintro e wX ⟨rfl, hbX⟩
        have hX := hHeld.below hbX
        go_wp2_with fail
        refine hK.out _ _ hX (fun hHeld => ?_)
        clear hK K
        try simp only [Act.put, List.setIfInBounds_toArray, List.set_cons_zero, List.set_cons_succ]
        refine wpAnyH_take (i := 19) (v := ?_) (by simp only [List.getElem?_toArray, List.getElem?_cons_succ, List.getElem?_cons_zero]; rfl) (by kernel_rfl) (by kernel_rfl) (by kernel_rfl) (by exact fun _ _ _ h => h) (Or.inl ⟨by rfl, fun _ hSw => ?_⟩) (by assumption) ?_
        rotate_left
        · go_simp
          first | done | with_reducible rfl
        try simp only [Act.put, List.setIfInBounds_toArray, List.set_cons_zero, List.set_cons_succ]
        refine wpAnyH_take (i := 20) (v := ?_) (by simp only [List.getElem?_toArray, List.getElem?_cons_succ, List.getElem?_cons_zero]; rfl) (by kernel_rfl) (by kernel_rfl) (by kernel_rfl) (by exact fun _ _ _ h => h) (Or.inl ⟨by rfl, fun _ hSw => ?_⟩) (by assumption) ?_
        rotate_left
        · go_simp
          first | done | with_reducible rfl
        try simp only [Act.put, List.setIfInBounds_toArray, List.set_cons_zero, List.set_cons_succ]
        refine wpAnyH_take (i := 21) (v := ?_) (by simp only [List.getElem?_toArray, List.getElem?_cons_succ, List.getElem?_cons_zero]; rfl) (by kernel_rfl) (by kernel_rfl) (by kernel_rfl) (by exact fun _ _ _ h => h) (Or.inl ⟨by rfl, fun _ hSw => ?_⟩) (by assumption) ?_
        rotate_left
        · go_simp
          first | done | with_reducible rfl
        try simp only [Act.put, List.setIfInBounds_toArray, List.set_cons_zero, List.set_cons_succ]
        refine wpAnyH_done (by kernel_rfl) ?_ _
        go_wp2_with fail
        go_ret
        exact ⟨rfl, hHeld.dt.bel⟩

end Go.Proofs.YtkblpcegdfhmoaaDoor
