/-
  The document's Make: the table of the program's own constants. No condition.
-/
import Derived.Test.YtkblpcegdfhmoaaDoorDRefRoot
import Derived.Test.YtkblpcegdfhmoaaDoorDRefTab
namespace Go.Proofs.YtkblpcegdfhmoaaDoor
open Go.RowKit

theorem root_2 (w : World) (p r : Nat) (hp : p ≤ 1000) (hr : Hid (r = rootN p 2)) : Calls Tryd.prog 24 #[.int .u64 p, .int .i64 2] w fun e w' => e = .returned (.int .i64 (r : Nat)) ∧ Below w.heap.size w w' := by
  rw [hr.out]
  exact root_any w p 2 hp (by omega) (by omega)
theorem root_3 (w : World) (p r : Nat) (hp : p ≤ 1000) (hr : Hid (r = rootN p 3)) : Calls Tryd.prog 24 #[.int .u64 p, .int .i64 3] w fun e w' => e = .returned (.int .i64 (r : Nat)) ∧ Below w.heap.size w w' := by
  rw [hr.out]
  exact root_any w p 3 hp (by omega) (by omega)

theorem padN_set {n : Nat} {l : List Nat} (h : l.length < n) (x : Nat) : (padN n l).set l.length x = padN n (l ++ [x]) := by
  unfold padN
  rw [List.set_append_right _ _ (Nat.le_refl _), Nat.sub_self]
  obtain ⟨m, hm⟩ : ∃ m, n - l.length = m + 1 := ⟨n - l.length - 1, by omega⟩
  rw [hm, List.replicate_succ, List.set_cons_zero, List.append_assoc]
  have : n - (l ++ [x]).length = m := by simp; omega
  rw [this]
  rfl
theorem padN_length {n : Nat} {l : List Nat} (h : l.length ≤ n) : (padN n l).length = n := by simp [padN]; omega
theorem tabN_length {ps : List Nat} (h : ps.length ≤ 64) : (tabN ps).length = 72 := by
  unfold tabN
  rw [List.length_append, padN_length (by simp; omega), padN_length (by simpa using h)]
theorem tab_cube {ps : List Nat} (h : ps.length < 64) (x : Nat) (l : List Nat) (hl : l.length = 8) : (l ++ padN 64 (ps.map fun p => rootN p 3)).set (8 + ps.length) (rootN x 3) = l ++ padN 64 ((ps ++ [x]).map fun p => rootN p 3) := by
  rw [List.set_append_right _ _ (by omega), hl, Nat.add_sub_cancel_left]
  have := padN_set (n := 64) (l := ps.map fun p => rootN p 3) (by simpa using h) (rootN x 3)
  rw [List.length_map] at this
  rw [this, List.map_append]
  rfl
theorem tab_late {ps : List Nat} (h : ps.length < 64) (h8 : 8 ≤ ps.length) (x : Nat) : (tabN ps).set (8 + ps.length) (rootN x 3) = tabN (ps ++ [x]) := by
  unfold tabN
  rw [tab_cube h x _ (padN_length (by simp; omega)), List.take_append_of_le_length h8]
theorem tab_early {ps : List Nat} (h8 : ps.length < 8) (x : Nat) : ((tabN ps).set ps.length (rootN x 2)).set (8 + ps.length) (rootN x 3) = tabN (ps ++ [x]) := by
  unfold tabN
  have e := padN_set (n := 8) (l := (ps.take 8).map fun p => rootN p 2) (by simp; omega) (rootN x 2)
  have el : ((ps.take 8).map fun p => rootN p 2).length = ps.length := by simp; omega
  rw [el] at e
  rw [List.set_append_left _ _ (by rw [padN_length (by simp; omega)]; omega), e, tab_cube (by omega) x _ (padN_length (by simp; omega))]
  rw [List.take_of_length_le (l := ps) (by omega), List.take_of_length_le (l := ps ++ [x]) (by simp; omega)]
  simp only [List.map_append, List.map_cons, List.map_nil]
theorem Vn_set (l : List Nat) (j x : Nat) : (Vn l).set j (.int .i64 x) = Vn (l.set j x) := by
  unfold Vn
  rw [List.map_set]
theorem Vn_get {l : List Nat} {j : Nat} (h : j < l.length) : ∃ n : Int, (Vn l)[j]? = some (.int .i64 n) := ⟨l[j], by simp [Vn, List.getElem?_eq_getElem h]⟩
theorem Vn_oneCell (xs : List Nat) : ∀ u ∈ Vn xs, u.oneCell' = true := by
  intro u hu
  simp only [Vn, List.mem_map] at hu
  obtain ⟨x, _, rfl⟩ := hu
  rfl
theorem zero29 (w : World) : (zeroValue 29).run Tryd.prog w = .ok (.agg (List.replicate 72 (Value.int .i64 0)).toArray) w :=
  (zero_of_info (P := Tryd.prog) (t := 29) (v := .agg (List.replicate 72 (Value.int .i64 0)).toArray) (n := 72) (by kernel_rfl)).1 w
attribute [local go_sem] zero29
theorem primes_on (p : Nat) (h : 2 ≤ p) : primesN (p + 1 - 2) = if isP p then primesN (p - 2) ++ [p] else primesN (p - 2) := by
  rw [show p + 1 - 2 = (p - 2) + 1 by omega, primesN, show p - 2 + 2 = p by omega]
theorem divs_on (p q : Nat) (h : 1 ≤ q) : divsN p (q + 1 - 1) = divsN p (q - 1) + if p % q = 0 then 1 else 0 := by
  rw [show q + 1 - 1 = (q - 1) + 1 by omega, divsN, show q - 1 + 1 = q by omega]

set_option maxHeartbeats 1000000 in
set_option maxRecDepth 100000 in
theorem make_any (w : World) : Calls Tryd.prog 9 #[] w fun e w' => e = .returned (.agg (Wi start8.list ++ Wi Ks).toArray) ∧ Below w.heap.size w w' := by
  have i29 : (Tryd.prog.info? 29).map (·.size) = some 72 := by kernel_rfl
  have I29 := Lib.hid i29
  clear i29
  go_enter Tryd.func9, Tryd.ntmps9
  go_wp2_with fail
  go_loopw [2, 3] (fun nv pv wr => ∃ p : Nat, 2 ≤ p ∧ p ≤ 312 ∧ pv = .int .u64 p ∧ nv = .int .i64 ((primesN (p - 2)).length : Nat) ∧ Blk wr (w.heap.size + 1) 29 (Vn (tabN (primesN (p - 2)))) ∧ Blk wr w.heap.size 29 (List.replicate 72 (.int .i64 0)) ∧ Below w.heap.size w wr) (fun _ pv _ => 312 - (intOf pv).toNat)
  case atStart => exact ⟨2, by omega, by omega, rfl, rfl, blk_two w _ _ (List.replicate 72 (.int .i64 0)) (List.replicate 72 (.int .i64 0)), (Blk.new w _ (List.replicate 72 (.int .i64 0))).alloc _, ((Below.refl _ _).alloc (Nat.le_refl _) _).alloc (by simp) _⟩
  case round =>
    obtain ⟨p, hp2, hp3, rfl, rfl, hb1, hb0, hbel⟩ := hrel
    have HW := Lib.hid (And.intro hb1 (And.intro hb0 hbel))
    have hs0 := hbel.size
    have hs1 := hb1.lt
    clear hb1 hb0 hbel
    by_cases hn : (primesN (p - 2)).length < 64
    · have hp311 : p ≤ 311 := by
        rcases Nat.lt_or_ge p 312 with h | h
        · omega
        · exfalso
          obtain rfl : p = 312 := by omega
          rw [show 312 - 2 = 310 by omega, primes_now] at hn
          simp at hn
      have hon := Lib.hid (primes_on p hp2)
      have htl := tabN_length (ps := primesN (p - 2)) (by omega)
      have hte := Lib.hid (fun h => tab_early (ps := primesN (p - 2)) h p)
      have htt := Lib.hid (fun h => tab_late (ps := primesN (p - 2)) hn h p)
      generalize primesN (p - 2) = ps at *
      obtain ⟨m, hm⟩ : ∃ m, m = ps.length := ⟨_, rfl⟩
      rw [← hm] at hn hte htt
      rw [← hm]
      have HM := Lib.hid (And.intro hm htl)
      clear hm htl
      obtain ⟨wo, rfl⟩ : ∃ wo : World, wo = wr := ⟨_, rfl⟩
      go_wp2_with fail
      go_loopw [4, 5] (fun cv qv wr => ∃ q : Nat, 1 ≤ q ∧ q ≤ p + 1 ∧ qv = .int .u64 q ∧ cv = .int .i64 (divsN p (q - 1) : Nat) ∧ wr = wo) (fun _ qv _ => p + 1 - (intOf qv).toNat)
      case atStart => exact ⟨1, by omega, by omega, rfl, rfl, rfl⟩
      case round =>
        obtain ⟨q, hq1, hq2, rfl, rfl, rfl⟩ := hrel
        have hdl := divsN_le p (q - 1)
        by_cases hqp : q ≤ p
        · have hdo := Lib.hid (divs_on p q hq1)
          generalize divsN p (q - 1) = c at *
          by_cases hz : p % q = 0
          · have hz1 : ((p : Int) % (q : Int) == 0) = true := by
              rw [← Int.natCast_emod, hz]; rfl
            have hz2 : (p : Int) % (q : Int) = 0 := by
              rw [← Int.natCast_emod, hz]; rfl
            clear hz2
            go_wp2_with fail
            go_roundw
            case rel => exact ⟨q + 1, by omega, by omega, by go_num, by rw [hdo.out, if_pos hz]; go_num, trivial⟩
            case measure => simp [intOf]; omega
          · have hz1 : ((p : Int) % (q : Int) == 0) = false := by
              rw [← Int.natCast_emod]; simp; omega
            go_wp2_with fail
            go_roundw
            case rel => exact ⟨q + 1, by omega, by omega, by go_num, by rw [hdo.out, if_neg hz]; go_num, trivial⟩
            case measure => simp [intOf]; omega
        · obtain rfl : q = p + 1 := by omega
          have hip : isP p = (divsN p (p + 1 - 1) == 2) := rfl
          have HI := Lib.hid hip
          clear hip
          generalize divsN p (p + 1 - 1) = c at *
          by_cases hc : c = 2
          · subst hc
            have hon2 := Lib.hid (show primesN (p + 1 - 2) = ps ++ [p] by rw [hon.out, HI.out]; rfl)
            obtain ⟨z0, hz0⟩ := Vn_get (l := tabN ps) (j := m) (by rw [HM.out.2]; omega)
            obtain ⟨z1, hz1⟩ := Vn_get (l := tabN ps) (j := 8 + m) (by rw [HM.out.2]; omega)
            have HZ := Lib.hid (And.intro hz0 hz1)
            clear hz0 hz1
            obtain ⟨r2, hr2⟩ : ∃ r, r = rootN p 2 := ⟨_, rfl⟩
            obtain ⟨r3, hr3⟩ : ∃ r, r = rootN p 3 := ⟨_, rfl⟩
            have HR2 := Lib.hid hr2
            have HR3 := Lib.hid hr3
            clear hr2 hr3
            by_cases hm8 : m < 8
            · go_wp2_with fail
              refine (root_2 _ p r2 (by omega) HR2).mono ?_
              rintro e w2 ⟨rfl, hb2⟩
              have HB2 := Lib.hid hb2
              have hb1 := HW.out.1.below hb2 (by omega)
              have hc1 := (hb1.cell m).trans HZ.out.1
              have hf1 := hb1.frozen m
              have hs2 := hb2.size
              clear hb2
              have HB1 := Lib.hid (hb1.set_ m (.int .i64 r2))
              clear hb1
              go_wp2_with fail
              refine (root_3 _ p r3 (by omega) HR3).mono ?_
              rintro e w3 ⟨rfl, hb3⟩
              have hb1 := HB1.out.below hb3 (by simp; omega)
              have hc2 := (hb1.cell (8 + m)).trans ((List.getElem?_set_ne (by omega)).trans HZ.out.2)
              have hf2 := hb1.frozen (8 + m)
              have h0 := (((HW.out.2.1.below HB2.out (by omega)).far (p := ⟨w.heap.size + 1, m, none⟩) (by simp) (.int .i64 r2)).below hb3 (by simp; omega))
              have hbel := ((HW.out.2.2.trans (HB2.out.mono hs0)).setCell (p := ⟨w.heap.size + 1, m, none⟩) (by simp) (.int .i64 r2)).trans (hb3.mono (by simp; omega))
              have H3 := Lib.hid (And.intro hb1 (And.intro h0 hbel))
              clear hb1 hb3 h0 hbel hc1 hf1
              go_wp2_with fail
              go_roundw
              case rel =>
                refine ⟨p + 1, by omega, by omega, by go_num, ?_, ?_, ?_, ?_⟩
                · rw [hon2.out, List.length_append, ← HM.out.1]; go_num
                · rw [hon2.out, ← hte.out hm8, ← HR2.out, ← HR3.out, ← Vn_set, ← Vn_set]
                  exact H3.out.1.set_ (8 + m) (.int .i64 r3)
                · exact H3.out.2.1.far (p := ⟨w.heap.size + 1, 8 + m, none⟩) (by simp) _
                · exact H3.out.2.2.setCell (p := ⟨w.heap.size + 1, 8 + m, none⟩) (by simp) _
              case measure => simp [intOf]; omega
            · go_wp2_with fail
              refine (root_3 _ p r3 (by omega) HR3).mono ?_
              rintro e w3 ⟨rfl, hb3⟩
              have hb1 := HW.out.1.below hb3 (by omega)
              have hc2 := (hb1.cell (8 + m)).trans HZ.out.2
              have hf2 := hb1.frozen (8 + m)
              have h0 := HW.out.2.1.below hb3 (by omega)
              have hbel := HW.out.2.2.trans (hb3.mono hs0)
              have H3 := Lib.hid (And.intro hb1 (And.intro h0 hbel))
              clear hb1 hb3 h0 hbel
              go_wp2_with fail
              go_roundw
              case rel =>
                refine ⟨p + 1, by omega, by omega, by go_num, ?_, ?_, ?_, ?_⟩
                · rw [hon2.out, List.length_append, ← HM.out.1]; go_num
                · rw [hon2.out, ← htt.out (by omega), ← HR3.out, ← Vn_set]
                  exact H3.out.1.set_ (8 + m) (.int .i64 r3)
                · exact H3.out.2.1.far (p := ⟨w.heap.size + 1, 8 + m, none⟩) (by simp) _
                · exact H3.out.2.2.setCell (p := ⟨w.heap.size + 1, 8 + m, none⟩) (by simp) _
              case measure => simp [intOf]; omega
          · have hon2 := Lib.hid (show primesN (p + 1 - 2) = ps by rw [hon.out, HI.out, if_neg (by simp [hc])])
            have q1 : ((c : Int) == 2) = false := by simp; omega
            have q2 : ((c : Int) != 2) = true := by simp; omega
            go_wp2_with fail
            go_roundw
            case rel => exact ⟨p + 1, by omega, by omega, by go_num, by rw [hon2.out, ← HM.out.1], by rw [hon2.out]; exact HW.out.1, HW.out.2.1, HW.out.2.2⟩
            case measure => simp [intOf]; omega
    · have hp312 : p = 312 := by
        rcases Nat.lt_or_ge p 312 with h | h
        · exact absurd (primes_63 (k := p - 2) (by omega)) hn
        · omega
      have hT : Vn (tabN (primesN (p - 2))) = Wi start8.list ++ Wi Ks := by rw [hp312]; exact table_is
      have hW1 := HW.out.1
      rw [hT] at hW1
      have hl72 : (Wi start8.list ++ Wi Ks).length = 72 := by simp [Wi_length, S8.list, Ks, rootsZ]
      have hone : ∀ u ∈ Wi start8.list ++ Wi Ks, u.oneCell' = true := by
        intro u hu
        rcases List.mem_append.1 hu with hu | hu
        · exact Wi_oneCell _ u hu
        · exact Wi_oneCell _ u hu
      have H1 := Lib.hid (And.intro hW1 hone)
      clear hT hW1 hone
      obtain ⟨T, hT⟩ : ∃ T, T = Wi start8.list ++ Wi Ks := ⟨_, rfl⟩
      rw [← hT] at H1 hl72
      have HT := Lib.hid hT
      clear hT
      generalize (primesN (p - 2)).length = m at *
      go_wp2_with (first
        | (refine wpList_load_mid rfl 29 (.tmp 1) rfl (w.heap.size + 1) 0 rfl _ _ H1.out.1.range Tryd.underlying29 rfl (I29.out.trans (by rw [hl72])) ?_)
        | (refine wpList_store_blk rfl 29 (.tmp 0) (.tmp 37) rfl w.heap.size 0 T rfl rfl HW.out.2.1 (by simp [hl72]) (I29.out.trans (by simp [hl72])) H1.out.2 ?_; intro wF hF hO))
      rw [over_whole (by simp [hl72])] at hF
      refine bodyPost_ret (v := .agg T.toArray) ?_ rfl ⟨by rw [HT.out], ?_⟩
      · exact ret_cell rfl rfl (run_loadVar_mid _ _ 0 29 _ _ hF.range Tryd.underlying29 rfl (I29.out.trans (by rw [hl72])))
      · exact HW.out.2.2.trans (hO.below (B := w.heap.size) (by omega) (by simp))

end Go.Proofs.YtkblpcegdfhmoaaDoor
