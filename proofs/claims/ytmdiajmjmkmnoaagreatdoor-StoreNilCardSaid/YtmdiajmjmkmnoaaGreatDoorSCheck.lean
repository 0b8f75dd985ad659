/-
  Check: what is wrong with a package. Conditions: the signs lie in their variable; the revisions lie in memory.
-/
import Derived.Test.YtmdiajmjmkmnoaaGreatDoorSRising
set_option linter.unusedSimpArgs false
set_option linter.unusedVariables false
set_option maxRecDepth 100000
namespace Go.Proofs.YtmdiajmjmkmnoaaGreatDoor
open Go.RowKit

/-- Is a revision the active one? (the package lies in a box) -/
theorem act_any (w : World) (b : Nat) (act : Int) (r : RevR) (hs : r.sl.length = 32) (hc : w.cell? ⟨b, 2, none⟩ = some (.int .i64 act)) :
    Calls Tryz.prog 46 #[.agg (rvC r).toArray, .pointer (some ⟨b, 0, none⟩)] w fun e w' => e = .returned (.bool (decide (r.no = act))) ∧ Below w.heap.size w w' := by
  have hbx : (Instr.box 76 (.agg (rvC r).toArray)).run Tryz.prog w = .ok (.pointer (some ⟨w.heap.size, 0, none⟩)) (w.alloc (.cells (rvC r).toArray 76)) := rfl
  have hB := pnew w (.cells (rvC r).toArray 76)
  have hk := Blk.new w 76 (rvC r)
  have c0 := (hk.cell 0).trans (rvC_no r)
  have c2 : (w.alloc (.cells (rvC r).toArray 76)).cell? ⟨b, 2, none⟩ = some (.int .i64 act) := (hB.cell (p := ⟨b, 2, none⟩) (World.block_lt_of_cell? w _ hc)).trans hc
  obtain ⟨no, hno⟩ : ∃ x, x = r.no := ⟨_, rfl⟩
  rw [← hno] at c0 ⊢
  clear hno hc
  have HB := Lib.hid hB
  clear hbx hk hB
  go_enter Tryz.func46, Tryz.ntmps46
  go_wp2_with fail
  go_ret
  exact ⟨pret_bool rfl, HB.out⟩

set_option maxHeartbeats 1000000 in
theorem index_act (w : World) (b : Nat) (act : Int) (A : Option Addr) (n c : Nat) (rs : List RevR) (h : RIn w A n c rs) (hc : w.cell? ⟨b, 2, none⟩ = some (.int .i64 act)) :
    Calls Tryz.prog 69 #[.slice A n c, .func (.func 46) #[] #[.pointer (some ⟨b, 0, none⟩)]] w fun e w' => (∃ z : Int, e = .returned (.int .i64 z) ∧ decide (0 ≤ z) = hasNo act rs) ∧ Below w.heap.size w w' := by
  have hbig := h.big
  have H := Lib.hid (And.intro h hc)
  clear h hc
  go_enter Tryz.func69, Tryz.ntmps69
  go_wp2_with fail
  go_loopw [8] (fun iv wr => ∃ i : Nat, i ≤ n ∧ iv = .int .i64 i ∧ Hid (hasNo act rs = hasNo act (rs.drop i)) ∧ Hid (Below w.heap.size w wr)) (fun iv _ => n - (intOf iv).toNat)
  case atStart => exact ⟨0, by omega, rfl, Lib.hid rfl, Lib.hid (Below.refl _ _)⟩
  case round =>
    obtain ⟨i, hi, rfl, HK, HW⟩ := hrel
    by_cases hlt : i < n
    · obtain ⟨r, hr⟩ : ∃ r, rs[i]? = some r := ⟨_, List.getElem?_eq_getElem (by have := H.out.1.len; omega)⟩
      have hs := H.out.1.seals r (List.mem_of_getElem? hr)
      obtain ⟨g, o, rfl, hg, hcl⟩ := (H.out.1.below HW.out).cells (by omega)
      have HC := Lib.hid (hcl i r hr)
      have HD : Hid (hasNo act (rs.drop i) = (decide (r.no = act) || hasNo act (rs.drop (i + 1)))) := Lib.hid (by
        obtain ⟨h1, h2⟩ := List.getElem?_eq_some_iff.1 hr
        rw [List.drop_eq_getElem_cons h1, h2]
        rfl)
      have HS := Lib.hid hs
      clear hr hcl hs
      go_wp2_with (refine wpList_load_mid rfl 76 (.tmp 14) rfl g (o + i * 34) rfl _ _ HC.out Tryz.underlying76 rfl (infoRev.trans (by rw [rvC_length HS.out])) ?_)
      refine (act_any wr b act r HS.out ((HW.out.cell (p := ⟨b, 2, none⟩) (World.block_lt_of_cell? w _ H.out.2)).trans H.out.2)).mono ?_
      rintro e w2 ⟨rfl, h2⟩
      have H2 := Lib.hid (HW.out.trans (h2.mono HW.out.size))
      clear h2
      by_cases hq : r.no = act
      · have hd : decide (r.no = act) = true := decide_eq_true hq
        rw [hd] at HD ⊢
        clear hq hd
        go_wp2_with fail
        go_ret
        exact ⟨⟨i, rfl, by rw [HK.out, HD.out]; simp⟩, H2.out⟩
      · have hd : decide (r.no = act) = false := decide_eq_false hq
        rw [hd] at HD ⊢
        clear hq hd
        go_wp2_with fail
        go_roundw
        case rel => exact ⟨i + 1, by omega, by go_num, Lib.hid (by rw [HK.out, HD.out]; rfl), H2⟩
        case measure => simp [intOf]; omega
    · obtain rfl : i = n := by omega
      have HQ : Hid (hasNo act rs = false) := Lib.hid (by
        rw [HK.out, List.drop_eq_nil_of_le (by have := H.out.1.len; omega)]
        rfl)
      go_wp2_with fail
      go_ret
      exact ⟨⟨-1, rfl, by rw [HQ.out]; rfl⟩, HW.out⟩

set_option maxHeartbeats 2000000 in
set_option maxRecDepth 100000 in
theorem check_pk (w : World) (hS : Signs w) (nm pb : ByteArray) (act : Int) (A : Option Addr) (n c : Nat) (rs : List RevR) (h : RIn w A n c rs) :
    Calls Tryz.prog 25 #[pkV nm pb act A n c] w fun e w' => e = .returned (.int .i64 (chkN nm pb act rs)) ∧ Below w.heap.size w w' := by
  have hmf : ∀ (fn : Fn) (first cap : Array Value) (w : World), (Instr.makeFunc fn first cap).run Tryz.prog w = .ok (.func fn first cap) w := fun _ _ _ _ => rfl
  have hbig := h.big
  have hB := pnew w (.cells #[.string nm, .string pb, .int .i64 act, .slice A n c] 34)
  have hk := Blk.new w 34 [.string nm, .string pb, .int .i64 act, .slice A n c]
  have HL := Lib.hid h.len
  have H := Lib.hid (And.intro (h.below hB) (And.intro (hS.to hB) (And.intro hB hk)))
  clear h hS hB hk
  have n1 := fun (W : World) (hW : Signs W) => name_any W hW nm
  have n2 := fun (W : World) (hW : Signs W) => name_any W hW pb
  obtain ⟨b1, hb1⟩ : ∃ b, b = nameB nm := ⟨_, rfl⟩
  obtain ⟨b2, hb2⟩ : ∃ b, b = nameB pb := ⟨_, rfl⟩
  obtain ⟨b3, hb3⟩ : ∃ b, b = risingB 0 rs := ⟨_, rfl⟩
  obtain ⟨b4, hb4⟩ : ∃ b, b = hasNo act rs := ⟨_, rfl⟩
  rw [← hb1] at n1
  rw [← hb2] at n2
  have HN := Lib.hid (And.intro n1 n2)
  have HF : Hid (chkN nm pb act rs = if !b1 || !b2 then 10 else if n < 1 ∨ 3 < n then 2 else if !b3 then 1 else if !b4 then 7 else 0) := Lib.hid (by unfold chkN; rw [hb1, hb2, hb3, hb4, HL.out])
  have HR := Lib.hid hb3
  have HA := Lib.hid hb4
  clear hb1 hb2 n1 n2 hb3 hb4
  go_enter Tryz.func25, Tryz.ntmps25
  go_wp2_with fail
  refine (HN.out.1 _ H.out.2.1).mono ?_
  rintro e w1 ⟨rfl, h1⟩
  have k1 := H.out.2.2.2.below h1 (by simp)
  have c1 := k1.cell 1
  have c3 := k1.cell 3
  have f1 := H.out.1.below h1
  have H1 := Lib.hid (And.intro f1 (And.intro (H.out.2.1.to h1) (And.intro (H.out.2.2.1.trans (h1.mono H.out.2.2.1.size)) k1)))
  clear h1 k1 f1
  simp only [List.getElem?_cons_succ, List.getElem?_cons_zero] at c1 c3
  cases b1 with
  | false =>
    go_wp2_with fail
    go_ret
    exact ⟨pret_num (by rw [HF.out]; rfl), H1.out.2.2.1⟩
  | true =>
    go_wp2_with fail
    refine (HN.out.2 _ H1.out.2.1).mono ?_
    rintro e w2 ⟨rfl, h2⟩
    have k2 := H1.out.2.2.2.below h2 H1.out.2.2.2.lt
    clear c1 c3
    have c3 := k2.cell 3
    have H2 := Lib.hid (And.intro (H1.out.1.below h2) (And.intro (H1.out.2.1.to h2) (And.intro (H1.out.2.2.1.trans (h2.mono H1.out.2.2.1.size)) k2)))
    clear h2 k2
    simp only [List.getElem?_cons_succ, List.getElem?_cons_zero] at c3
    cases b2 with
    | false =>
      go_wp2_with fail
      go_ret
      exact ⟨pret_num (by rw [HF.out]; rfl), H2.out.2.2.1⟩
    | true =>
      by_cases hl : n < 1 ∨ 3 < n
      · have HZ : Hid (chkN nm pb act rs = 2) := Lib.hid (by rw [HF.out, if_neg (by decide), if_pos hl])
        rcases hl with hl | hl
        · obtain rfl : n = 0 := by omega
          go_wp2_with fail
          go_ret
          exact ⟨pret_num (by rw [HZ.out]), H2.out.2.2.1⟩
        · go_wp2_with fail
          all_goals go_ret
          all_goals exact ⟨pret_num (by rw [HZ.out]), H2.out.2.2.1⟩
      · have HZ : Hid (chkN nm pb act rs = if !b3 then 1 else if !b4 then 7 else 0) := Lib.hid (by rw [HF.out, if_neg (by decide), if_neg hl])
        have hn1 : 1 ≤ n := by omega
        have hn3 : n ≤ 3 := by omega
        clear hl
        go_wp2_with fail
        refine (rising_any _ A n c rs H2.out.1).mono ?_
        rintro e w3 ⟨rfl, h3⟩
        rw [← HR.out]
        have k3 := H2.out.2.2.2.below h3 H2.out.2.2.2.lt
        clear c3
        have c3 := k3.cell 3
        have c2 := k3.cell 2
        have H3 := Lib.hid (And.intro (H2.out.1.below h3) (And.intro (H2.out.2.1.to h3) (And.intro (H2.out.2.2.1.trans (h3.mono H2.out.2.2.1.size)) k3)))
        clear h3 k3
        simp only [List.getElem?_cons_succ, List.getElem?_cons_zero] at c3 c2
        have HC := Lib.hid c2
        clear c2
        cases b3 with
        | false =>
          go_wp2_with fail
          go_ret
          exact ⟨pret_num (by rw [HZ.out]; rfl), H3.out.2.2.1⟩
        | true =>
          go_wp2_with (go_at_call 45; go_in)
          refine (index_act _ _ act A n c rs H3.out.1 HC.out).mono ?_
          rintro e w4 ⟨⟨z, rfl, hz⟩, h4⟩
          rw [← HA.out] at hz
          have H4 := Lib.hid (H3.out.2.2.1.trans (h4.mono H3.out.2.2.1.size))
          clear h4
          cases b4 with
          | false =>
            have hz' : (0 ≤ z) = False := eq_false (of_decide_eq_false hz)
            go_wp2_with fail
            go_ret
            exact ⟨pret_num (by rw [HZ.out]; rfl), H4.out⟩
          | true =>
            have hz' : 0 ≤ z := of_decide_eq_true hz
            go_wp2_with fail
            go_ret
            exact ⟨pret_num (by rw [HZ.out]; rfl), H4.out⟩
end Go.Proofs.YtmdiajmjmkmnoaaGreatDoor
