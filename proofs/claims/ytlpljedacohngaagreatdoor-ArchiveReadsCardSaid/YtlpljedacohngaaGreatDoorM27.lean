/-
  The document's Decode, walked. Conditions: the bytes lie in memory.
-/
import Derived.Test.YtlpljedacohngaaGreatDoorM23
import Derived.Test.YtlpljedacohngaaGreatDoorM24
import Derived.Test.YtlpljedacohngaaGreatDoorM18
import Derived.Test.YtlpljedacohngaaGreatDoorM26
section
set_option linter.unusedSimpArgs false
set_option linter.unusedVariables false
set_option maxRecDepth 100000
namespace Go.Proofs.YtlpljedacohngaaGreatDoor
open Go.RowKit

theorem conv_u8i {k : Nat} (hk : k < 256) (W : World) : (convert 5 3 (.int .u8 (k : Int))).run Tryz.prog W = .ok (.int .i64 (k : Int)) W := by
  have h := run_convert_int (P := Tryz.prog) W 5 3 .u8 (k : Int) (by kernel_rfl) (by kernel_rfl)
  rw [show Tryz.prog.intKind 3 = .i64 by kernel_rfl] at h
  rw [h]
  congr 2
  simp [IntKind.wrap, IntKind.signed, IntKind.bits]
  omega
theorem build_rde (W : World) (k m : Int) : (Instr.build 54 #[(1, .int .i64 k), (2, .int .i64 m)]).run Tryz.prog W = .ok (evV ⟨none, 0, 0, k, m, none, 0, 0⟩) W := by kernel_rfl
theorem alloc_rde (W : World) : (Instr.alloc 54 true (.tuple #[])).run Tryz.prog W = .ok (.pointer (some ⟨W.heap.size, 0, none⟩)) (W.alloc (.cells #[.slice none 0 0, .int .i64 0, .int .i64 0, .slice none 0 0] 54)) := by kernel_rfl
def newE (N : Nat) : Value → World → Prop := fun u w => ∃ g, u = .pointer (some ⟨g, 0, none⟩) ∧ N ≤ g ∧ Blk w g 54 [.slice none 0 0, .int .i64 0, .int .i64 0, .slice none 0 0]
theorem ein_push {N T : Nat} {w w' : World} {A : Option Addr} {i c : Nat} {xs : List Ev} {es : List En} {x : Ev} {e : En} {v : Value} (h : EIn w A i c xs es) (hx : EvOk w x e) (hb : Below w.heap.size w w') (hr : w'.ownsRow N T 4 v (i + 1) (rowE xs ++ evC x)) :
    ∃ B d, v = .slice B (i + 1) d ∧ EIn w' B (i + 1) d (xs ++ [x]) (es ++ [e]) := by
  rw [← rowE_snoc] at hr
  refine ein_row hr (by rw [List.length_append, h.len]; rfl) (by rw [List.length_append, h.elen]; rfl) (fun j y f hy hf => ?_)
  rcases Nat.lt_or_ge j i with hj | hj
  · rw [List.getElem?_append_left (by rw [h.len]; exact hj)] at hy
    rw [List.getElem?_append_left (by rw [h.elen]; exact hj)] at hf
    exact (h.ok j y f hy hf).below hb
  · rw [List.getElem?_append_right (by rw [h.len]; exact hj), h.len] at hy
    rw [List.getElem?_append_right (by rw [h.elen]; exact hj), h.elen] at hf
    have h0 : j - i = 0 := by
      have := (List.getElem?_eq_some_iff.1 hy).1
      simp at this
      omega
    rw [h0] at hy hf
    cases hy
    cases hf
    exact hx.below hb
theorem newE.st (N : Nat) : StV (newE N) := fun _ _ _ ⟨g, h1, h2, h3⟩ hb => ⟨g, h1, h2, h3.below hb h3.lt⟩
theorem txt_crel (d : List B8) (h : d.length = 4) : ((txtB d).toList == [67, 82, 69, 76]) = decide (d = crelB) := by
  have h1 : (txtB d).toList = d.map (fun x => UInt8.ofNat (nb x).toNat) := by
    rw [ByteArray.toList_eq]
    unfold txtB strOfNums
    simp [List.map_map, Function.comp_def]
  rw [h1]
  match d, h with
  | [a, b, c, e], _ =>
    by_cases hd : [a, b, c, e] = crelB
    · rw [decide_eq_true hd]
      unfold crelB at hd
      simp only [List.cons.injEq, and_true] at hd
      obtain ⟨rfl, rfl, rfl, rfl⟩ := hd
      simp [nb]
    · rw [decide_eq_false hd]
      rw [beq_eq_false_iff_ne]
      intro he
      apply hd
      simp only [List.map_cons, List.map_nil, List.cons.injEq, and_true] at he
      obtain ⟨e1, e2, e3, e4⟩ := he
      have hb : ∀ (x : B8) (k : UInt8), UInt8.ofNat (nb x).toNat = k → x = k.toBitVec := by
        intro x k hk
        subst hk
        apply BitVec.eq_of_toNat_eq
        have := x.isLt
        simp [nb]
      unfold crelB
      rw [hb a _ e1, hb b _ e2, hb c _ e3, hb e _ e4]
      rfl
def rdR (w0 : World) (p : Nat) (l0 l1 l2 : List Value) : Nat → World → Prop
  | 0, w => Only [p] w0 w ∧ Blk w p 54 l0
  | 1, w => Only [p] w0 w ∧ Blk w p 54 l1
  | _ + 2, w => Only [p] w0 w ∧ Blk w p 54 l2
section
variable {P : Program} {ρ : Operand → Value} {o : Oper} {w : World}
/-- 'x[i:j]'. -/
theorem x_sub_lh {t : TypeId} {x k l : Operand} {g q n c i m : Nat} {z : Int} (ho : o.op = .slice t x (some k) (some l) none) (ht : subT P t = true) (hs : (P.info? (P.elem t)).map (·.size) = some 1) (hx : ρ x = .slice (some ⟨g, q, none⟩) n c) (hk : ρ k = .int .i64 (i : Int)) (hl : ρ l = .int .i64 z) (hz : z = (i : Int) + (m : Int)) (h1 : i + m ≤ c) (h2 : i < c) : (execOp ρ o).run P w = .ok (.value (.slice (some ⟨g, q + i, none⟩) m (c - i))) w := by
  unfold subT at ht
  split at ht
  · rename_i e hu
    rw [Bool.and_eq_true, beq_iff_eq] at ht
    obtain ⟨he, hi⟩ := ht
    subst he
    obtain ⟨inf, hq⟩ : ∃ inf, P.info? (P.elem t) = some inf := by
      cases hq : P.info? (P.elem t) with
      | none => rw [hq] at hs; cases hs
      | some i => exact ⟨i, rfl⟩
    have hsz : inf.size = 1 := by simpa [hq] using hs
    unfold execOp
    rw [ho]
    simp only [hx, hk, hl, Option.map_some, Option.map_none]
    have hs := run_sliceAt_slice (P := P) w t (.slice (some ⟨g, q, none⟩) n c) (some (.int .i64 (i : Int))) (some (.int .i64 z)) none hu
    have hh := run_slice_lh (P := P) w t (some ⟨g, q, none⟩) n c hu .i64 .i64 (i : Int) z (by omega) (by omega) (by omega)
    have e1 : z.toNat = i + m := by omega
    have e2 : ¬ c = i := by omega
    simp only [Sem.run_bind, hs, hh]
    simp [sizeOf, typeInfo, run_program, hq, sliced, Result.andThen, hsz, e1, e2, addr_add]
  · cases ht
end
theorem slice0_re (W : World) : (Instr.buildSlice 27 0 #[]).run Tryz.prog W = .ok (.slice (some ⟨W.heap.size, 0, none⟩) 0 0) (W.alloc (.cells #[] 54)) := by kernel_rfl
theorem refE_nopath {e : En} {l : List En} {b : Bool} (h : e.path = []) : refE e l b = 10 := by
  unfold refE
  rw [refFrom_succ, if_pos (by show pathlessE e.path = true; rw [h, pathless_is]; simp)]
  rfl
theorem parse_bad {t : ByteArray} (h : (parseB t).2 ≠ 0) : (parseB t).1 = [] := by
  unfold parseB at h ⊢
  by_cases h1 : 160 < t.size
  · rw [if_pos h1]
  · rw [if_neg h1] at h ⊢
    by_cases h2 : t.data.toList = [47]
    · rw [if_pos h2]
    · rw [if_neg h2] at h ⊢
      by_cases h3 : (begP t && rightB (splitP (cutP t))) = true
      · rw [if_pos h3] at h
        exact absurd rfl h
      · rw [if_neg h3]
def RdOut (w : World) (D : List En × Nat × Int) (e : Ending) (w' : World) : Prop := Below w.heap.size w w' ∧ ((D.2.2 = 0 ∧ ∃ A' c' xs, e = .returned (.tuple #[.slice A' D.1.length c', .int .i64 (D.2.1 : Nat), .int .i64 0]) ∧ EIn w' A' D.1.length c' xs D.1) ∨
  (D.2.2 ≠ 0 ∧ e = .returned (.tuple #[.slice none 0 0, .int .i64 (D.2.1 : Nat), .int .i64 D.2.2])))
theorem drop_byA {b : List B8} {i j : Nat} (k : Nat) (h : i + j = k) : byA (b.drop i) j = byA b k := by
  unfold byA
  rw [getD_drop, h]
theorem dslice {w : World} {g o n c : Nat} {b : List B8} (h : DIn w (some ⟨g, o, none⟩) n c b) (i k : Nat) (hk : i + k ≤ n) (hi : i < n) : DIn w (some ⟨g, o + i, none⟩) k (c - i) ((b.drop i).take k) := by
  have hcap := h.cap
  have hd := h.drop (k := i) (by omega)
  rw [if_neg (by omega)] at hd
  have : Option.map (fun x : Addr => x.add i) (some ⟨g, o, none⟩) = some ⟨g, o + i, none⟩ := by simp [paddr]
  rw [this] at hd
  exact hd.take (by omega) (by omega) (Nat.le_refl _)
theorem byte_at {w : World} {g o n c : Nat} {b : List B8} (h : DIn w (some ⟨g, o, none⟩) n c b) {i : Nat} (hi : i < n) : w.cell? ⟨g, o + i, none⟩ = some (.int .u8 (byA b i : Int)) := by
  obtain ⟨g', o', hA, _, hc⟩ := h.cells (by omega)
  cases hA
  have hl : i < b.length := by rw [h.len]; exact hi
  refine hc i _ ?_
  rw [Vb_get, List.getElem?_eq_getElem hl]
  unfold byA nb
  rw [List.getD_eq_getElem?_getD, List.getElem?_eq_getElem hl]
  rfl
set_option maxHeartbeats 8000000 in
theorem rdecode_any (w : World) (A : Option Addr) (n c : Nat) (b : List B8) (h : DIn w A n c b) (hn : n ≤ 100000) :
    Calls Tryz.prog 5 #[.agg Tbl.toArray, .slice A n c] w (RdOut w (decB b)) := by
  have hb0 := pnew w (.cells Tbl.toArray 33)
  obtain ⟨w1, hw1⟩ : ∃ w1, w1 = w.alloc (.cells Tbl.toArray 33) := ⟨_, rfl⟩
  have hT : Blk w1 w.heap.size 33 Tbl := by rw [hw1]; exact Blk.new w _ Tbl
  have H0 : Hid (Below w.heap.size w w1 ∧ Blk w1 w.heap.size 33 Tbl ∧ DIn w1 A n c b) := Lib.hid ⟨by rw [hw1]; exact hb0, hT, by rw [hw1]; exact h.below hb0⟩
  have hlen := h.len
  have hcap := h.cap
  have hbig := h.big
  have HL := Lib.hid hlen
  obtain ⟨D, hD⟩ : ∃ D, D = decB b := ⟨_, rfl⟩
  have HD := Lib.hid hD
  rw [← hD]
  clear hb0 hT h hlen hD
  go_enter Tryz.func5, Tryz.ntmps5
  go_upto_region 1 with fail
  rw [← hw1]
  clear hw1
  by_cases h4 : n < 4
  · have HF : Hid (D = ([], 0, 3)) := Lib.hid (by
      rw [HD.out]
      unfold decB
      rw [if_neg (by
        intro he
        have := congrArg List.length he
        rw [List.length_take, HL.out] at this
        have h2 : crelB.length = 4 := rfl
        omega)])
    have b0 : (n : Int) < 4 := by omega
    have b1 : decide ((n : Int) < 4) = true := decide_eq_true b0
    go_wp2_with fail
    go_ret3
    rw [HF.out]
    exact ⟨H0.out.1, .inr ⟨by decide, rfl⟩⟩
  · have b0 : ((n : Int) < 4) = False := eq_false (by omega)
    have b1 : decide ((n : Int) < 4) = false := decide_eq_false (by omega)
    have b2 : (4 : Int) ≤ (n : Int) := by omega
    have b3 : (4 : Int) ≤ (c : Int) := by omega
    obtain ⟨g, o, rfl, hg, _⟩ := H0.out.2.2.cells (by omega)
    have hcv := conv_txt (H0.out.2.2.take (k := 4) (c' := c) (by omega) (by omega) (Nat.le_refl _))
    have htx := txt_crel (b.take 4) (by rw [List.length_take, HL.out]; omega)
    obtain ⟨T, hT⟩ : ∃ T, T = txtB (b.take 4) := ⟨_, rfl⟩
    rw [← hT] at hcv htx
    clear hT
    by_cases hp : b.take 4 = crelB
    · have hp1 : (T.toList == [67, 82, 69, 76]) = true := by rw [htx, decide_eq_true hp]
      have HP := Lib.hid hp
      clear htx hp
      by_cases h5 : n < 5
      · have HF : Hid (D = ([], 0, 4)) := Lib.hid (by
          rw [HD.out]
          have hr : (rs1 ⟨b.drop 4, false⟩).ms = true := by
            unfold rs1 numR takeR
            rw [if_pos (by show (b.drop 4).length < 1; rw [List.length_drop, HL.out]; omega)]
          have ha : arcR ⟨b.drop 4, false⟩ = ([], 4) := by
            unfold arcR
            rw [if_pos hr]
          rw [decB_by ha, if_pos HP.out]
          rfl)
        have c0 : (n : Int) < 5 := by omega
        have c1 : decide ((n : Int) < 5) = true := decide_eq_true c0
        go_wp2_with fail
        go_ret3
        rw [HF.out]
        exact ⟨H0.out.1, .inr ⟨by decide, rfl⟩⟩
      · have c0 : ((n : Int) < 5) = False := eq_false (by omega)
        have c1 : decide ((n : Int) < 5) = false := decide_eq_false (by omega)
        have z4 := byte_at H0.out.2.2 (i := 4) (by omega)
        have E1 : numR 1 ⟨b.drop 4, false⟩ = (byA b 4, ⟨b.drop 5, false⟩) := by
          have := num_one (L := b.drop 4) (by rw [List.length_drop, HL.out]; omega) false
          rw [List.drop_drop, drop_byA 4 rfl] at this
          exact this
        have hcl := byA_lt b 4
        obtain ⟨cnt, hcnt⟩ : ∃ cnt, cnt = byA b 4 := ⟨_, rfl⟩
        rw [← hcnt] at z4 E1 hcl
        have HA := Lib.hid (arcR_by ⟨b.drop 4, false⟩ E1 rfl)
        have hcu := conv_u8i hcl
        have d4 : (4 : Int) < (n : Int) := by omega
        clear hcnt E1
        by_cases h40 : 40 < cnt
        · have HF : Hid (D = ([], 0, 2)) := Lib.hid (by
            have ha := HA.out
            rw [if_neg (by simp), if_pos h40] at ha
            rw [HD.out, decB_by ha, if_pos HP.out]
            rfl)
          have c2 : (40 : Int) < (cnt : Int) := by omega
          have c3 : decide ((40 : Int) < (cnt : Int)) = true := decide_eq_true c2
          go_wp2_with fail
          go_ret3
          rw [HF.out]
          exact ⟨H0.out.1, .inr ⟨by decide, rfl⟩⟩
        · have c2 : ((40 : Int) < (cnt : Int)) = False := eq_false (by omega)
          have c3 : decide ((40 : Int) < (cnt : Int)) = false := decide_eq_false (by omega)
          have HA2 : Hid (arcR ⟨b.drop 4, false⟩ = if (entsR cnt ⟨b.drop 5, false⟩ []).err = 0 then (if 0 < (entsR cnt ⟨b.drop 5, false⟩ []).st.left.length then ((entsR cnt ⟨b.drop 5, false⟩ []).l, 3) else ((entsR cnt ⟨b.drop 5, false⟩ []).l, 0)) else ((entsR cnt ⟨b.drop 5, false⟩ []).l, (entsR cnt ⟨b.drop 5, false⟩ []).err)) := Lib.hid (by rw [HA.out, if_neg (by simp), if_neg h40])
          go_wp2_with fail
          go_loopw [8, 9, 10] (fun av lv iv wr => ∃ i at_ : Nat, ∃ A9 c9, i ≤ cnt ∧ 5 ≤ at_ ∧ at_ ≤ n ∧ iv = .int .i64 i ∧ av = .int .i64 at_ ∧ lv = .slice A9 i c9 ∧ Hid ((entsR i ⟨b.drop 5, false⟩ []).err = 0 ∧ (entsR i ⟨b.drop 5, false⟩ []).st = ⟨b.drop at_, false⟩ ∧ ∃ xs, EIn wr A9 i c9 xs (entsR i ⟨b.drop 5, false⟩ []).l) ∧ Hid (Below w1.heap.size w1 wr)) (fun _ _ iv _ => cnt - (intOf iv).toNat)
          case atStart => exact ⟨0, 5, none, 0, by omega, Nat.le_refl _, by omega, rfl, rfl, rfl, Lib.hid ⟨rfl, rfl, [], EIn.none _⟩, Lib.hid (Below.refl _ _)⟩
          case round =>
            obtain ⟨i, at_, A9, c9, hi, ha5, han, rfl, rfl, rfl, HI, HW⟩ := hrel
            obtain ⟨h0, hst, xs9, hI⟩ := HI.out
            have hsn := entsR_snoc i ⟨b.drop 5, false⟩ []
            rw [if_pos h0, hst, entR_at] at hsn
            have hstp := fun (hne : (entsR (i + 1) ⟨b.drop 5, false⟩ []).err ≠ 0) => entsR_stop (s := ⟨b.drop 5, false⟩) (l := []) hne
            have hll : (b.drop at_).length = n - at_ := by rw [List.length_drop, HL.out]
            have htl : tlA (b.drop at_) = byA b (at_ + 3) := drop_byA (at_ + 3) rfl
            obtain ⟨l0, hl0⟩ : ∃ l0, l0 = (entsR i ⟨b.drop 5, false⟩ []).l := ⟨_, rfl⟩
            rw [← hl0] at hI hsn
            have hel := hI.elen
            by_cases hlt : i < cnt
            · have HOut : Hid (∀ st z, z ≠ 0 → entsR (i + 1) ⟨b.drop 5, false⟩ [] = ⟨st, l0, z⟩ → D = ([], i, z)) := Lib.hid (fun st z hz he => by
                have h3 := hstp (by rw [he]; exact hz) (cnt - (i + 1))
                rw [show i + 1 + (cnt - (i + 1)) = cnt by omega, he] at h3
                have ha := HA2.out
                rw [h3] at ha
                dsimp only at ha
                rw [if_neg hz] at ha
                rw [HD.out, decB_by ha, if_pos HP.out]
                dsimp only
                rw [if_neg hz, hel])
              have HS := Lib.hid (And.intro hsn (And.intro hI (And.intro hll htl)))
              have hi9 : i ≤ c9 := hI.cap
              have hc9 : c9 ≤ 9223372036854775807 := hI.big
              have z3 : at_ + 3 < n → w1.cell? ⟨g, o + (at_ + 3), none⟩ = some (.int .u8 (byA b (at_ + 3) : Int)) := fun hh => byte_at H0.out.2.2 hh
              have htlb := byA_lt b (at_ + 3)
              obtain ⟨tl, htl'⟩ : ∃ tl, tl = byA b (at_ + 3) := ⟨_, rfl⟩
              have HTL := Lib.hid htl'
              rw [← htl'] at z3 htlb
              clear h0 hst hsn hstp hll htl hI hl0 hel htl' HI
              by_cases q1 : n < at_ + 4
              · have HF : Hid (D = ([], i, 4)) := Lib.hid (HOut.out _ 4 (by decide) (HS.out.1.trans (if_neg (by rw [HS.out.2.2.1]; omega))))
                have r1 : (n : Int) < (at_ : Int) + 4 := by omega
                have r2 : decide ((n : Int) < (at_ : Int) + 4) = true := decide_eq_true r1
                clear z3
                go_wp2_with fail
                (try rw [Exit.noGoto_ret])
                go_ret3
                rw [HF.out]
                exact ⟨H0.out.1.trans (HW.out.mono H0.out.1.size), .inr ⟨show (4 : Int) ≠ 0 by decide, rfl⟩⟩
              · have r1 : ((n : Int) < (at_ : Int) + 4) = False := eq_false (by omega)
                have r2 : decide ((n : Int) < (at_ : Int) + 4) = false := decide_eq_false (by omega)
                have z3w := pcell_below (z3 (by omega)) HW.out
                have hct := conv_u8i htlb
                clear z3
                have r3 : (0 : Int) ≤ (at_ : Int) + 3 := by omega
                have r4 : (at_ : Int) + 3 < (n : Int) := by omega
                by_cases q2 : n < at_ + 4 + tl + 2
                · have HF : Hid (D = ([], i, 4)) := Lib.hid (HOut.out _ 4 (by decide) (HS.out.1.trans (if_neg (by rw [HS.out.2.2.1, HS.out.2.2.2, ← HTL.out]; omega))))
                  have r5 : (n : Int) < (at_ : Int) + 4 + (tl : Int) + 2 := by omega
                  have r6 : decide ((n : Int) < (at_ : Int) + 4 + (tl : Int) + 2) = true := decide_eq_true r5
                  go_wp2_with fail
                  (try rw [Exit.noGoto_ret])
                  go_ret3
                  rw [HF.out]
                  exact ⟨H0.out.1.trans (HW.out.mono H0.out.1.size), .inr ⟨show (4 : Int) ≠ 0 by decide, rfl⟩⟩
                · have r5 : ((n : Int) < (at_ : Int) + 4 + (tl : Int) + 2) = False := eq_false (by omega)
                  have r6 : decide ((n : Int) < (at_ : Int) + 4 + (tl : Int) + 2) = false := decide_eq_false (by omega)
                  have z0 := pcell_below (byte_at H0.out.2.2 (i := at_) (by omega)) HW.out
                  have z1 := pcell_below (byte_at H0.out.2.2 (i := at_ + 1) (by omega)) HW.out
                  have z2 := pcell_below (byte_at H0.out.2.2 (i := at_ + 2) (by omega)) HW.out
                  have hk0 := byA_lt b at_
                  have hk1 := byA_lt b (at_ + 1)
                  have hk2 := byA_lt b (at_ + 2)
                  have HKN : Hid (byA (b.drop at_) 0 = byA b at_ ∧ byA (b.drop at_) 1 = byA b (at_ + 1) ∧ byA (b.drop at_) 2 = byA b (at_ + 2)) := Lib.hid ⟨drop_byA at_ (by omega), drop_byA (at_ + 1) rfl, drop_byA (at_ + 2) rfl⟩
                  obtain ⟨k0, hk0'⟩ : ∃ k, k = byA b at_ := ⟨_, rfl⟩
                  obtain ⟨k1, hk1'⟩ : ∃ k, k = byA b (at_ + 1) := ⟨_, rfl⟩
                  obtain ⟨k2, hk2'⟩ : ∃ k, k = byA b (at_ + 2) := ⟨_, rfl⟩
                  rw [← hk0', ← hk1', ← hk2'] at HKN
                  rw [← hk0'] at z0 hk0
                  rw [← hk1'] at z1 hk1
                  rw [← hk2'] at z2 hk2
                  clear hk0' hk1' hk2'
                  go_wp2_with fail
                  refine wp_hideQ ?_
                  intro QQ hQQ
                  refine wp_region_quickT [some 61, some 62, some 63, some 64, some 65, some 66, some 67, some 68, some 69, some 70, some 71, some 72, some 73, some 74, some 75, some 76, some 77, some 78, some 79, some 80, some 11] [isV (.slice (some ⟨g, o, none⟩) n c), isV (.int .i64 (at_ : Int)), isV (.pointer (some ⟨g, o + (at_), none⟩)), isV (.int .u8 (k0 : Int)), isV (.int .i64 (k0 : Int)), isV (.slice (some ⟨g, o, none⟩) n c), isV (.int .i64 (at_ : Int)), isV (.int .i64 ((at_ + 1 : Nat) : Int)), isV (.pointer (some ⟨g, o + (at_ + 1), none⟩)), isV (.int .u8 (k1 : Int)), isV (.int .i64 (k1 : Int)), isV (.int .i64 ((k1 * 256 : Nat) : Int)), isV (.slice (some ⟨g, o, none⟩) n c), isV (.int .i64 (at_ : Int)), isV (.int .i64 ((at_ + 2 : Nat) : Int)), isV (.pointer (some ⟨g, o + (at_ + 2), none⟩)), isV (.int .u8 (k2 : Int)), isV (.int .i64 (k2 : Int)), isV (.int .i64 ((k1 * 256 + k2 : Nat) : Int)), isV (evV ⟨none, 0, 0, (k0 : Int), ((k1 * 256 + k2 : Nat) : Int), none, 0, 0⟩), newE wr.heap.size] 21 22 (by kernel_rfl) rfl rfl rfl rfl (by kernel_rfl) (by kernel_rfl) (by simp [isV.st, newE.st]) ?_ ?_
                  · intro hq rz hz
                    match rz, hz with
                    | 0, _ =>
                      refine StepL.val rfl [] (by decide +kernel) ?_
                      intro v wx hR hd
                      exact ⟨wanted_plain rfl _, _, _, x_move rfl (fill_off rfl rfl), hR, Below.refl _ _, rfl⟩
                    | 1, _ =>
                      refine StepL.val rfl [] (by decide +kernel) ?_
                      intro v wx hR hd
                      exact ⟨wanted_plain rfl _, _, _, x_move rfl (fill_off rfl rfl), hR, Below.refl _ _, rfl⟩
                    | 2, _ =>
                      refine StepL.val rfl [0, 1] (by decide +kernel) ?_
                      intro v wx hR hd
                      have h0 : v 0 = _ := hd 0 (by simp)
                      have h1 : v 1 = _ := hd 1 (by simp)
                      exact ⟨wanted_plain rfl _, _, _, x_index rfl (hq.at_ rfl h0) (hq.at_ rfl h1) (r_index (e := 5) (size := 1) (by kernel_rfl) (by kernel_rfl) (by omega) (by omega) (by omega)), hR, Below.refl _ _, rfl⟩
                    | 3, _ =>
                      refine StepL.val rfl [2] (by decide +kernel) ?_
                      intro v wx hR hd
                      have h2 : v 2 = _ := hd 2 (by simp)
                      exact ⟨wanted_plain rfl _, _, _, x_load rfl (hq.at_ rfl h2) (r_load (by kernel_rfl) (pcell_below z0 hR)), hR, Below.refl _ _, rfl⟩
                    | 4, _ =>
                      refine StepL.val rfl [3] (by decide +kernel) ?_
                      intro v wx hR hd
                      have h3 : v 3 = _ := hd 3 (by simp)
                      exact ⟨wanted_plain rfl _, _, _, x_conv rfl (hq.at_ rfl h3) (conv_u8i hk0 _), hR, Below.refl _ _, rfl⟩
                    | 5, _ =>
                      refine StepL.val rfl [] (by decide +kernel) ?_
                      intro v wx hR hd
                      exact ⟨wanted_plain rfl _, _, _, x_move rfl (fill_off rfl rfl), hR, Below.refl _ _, rfl⟩
                    | 6, _ =>
                      refine StepL.val rfl [] (by decide +kernel) ?_
                      intro v wx hR hd
                      exact ⟨wanted_plain rfl _, _, _, x_move rfl (fill_off rfl rfl), hR, Below.refl _ _, rfl⟩
                    | 7, _ =>
                      refine StepL.val rfl [6] (by decide +kernel) ?_
                      intro v wx hR hd
                      have h6 : v 6 = _ := hd 6 (by simp)
                      exact ⟨wanted_plain rfl _, _, _, x_bin rfl (hq.at_ rfl h6) rfl (r_add (by omega) (by omega) (by omega)), hR, Below.refl _ _, rfl⟩
                    | 8, _ =>
                      refine StepL.val rfl [5, 7] (by decide +kernel) ?_
                      intro v wx hR hd
                      have h5 : v 5 = _ := hd 5 (by simp)
                      have h7 : v 7 = _ := hd 7 (by simp)
                      exact ⟨wanted_plain rfl _, _, _, x_index rfl (hq.at_ rfl h5) (hq.at_ rfl h7) (r_index (e := 5) (size := 1) (by kernel_rfl) (by kernel_rfl) (by omega) (by omega) (by omega)), hR, Below.refl _ _, rfl⟩
                    | 9, _ =>
                      refine StepL.val rfl [8] (by decide +kernel) ?_
                      intro v wx hR hd
                      have h8 : v 8 = _ := hd 8 (by simp)
                      exact ⟨wanted_plain rfl _, _, _, x_load rfl (hq.at_ rfl h8) (r_load (by kernel_rfl) (pcell_below z1 hR)), hR, Below.refl _ _, rfl⟩
                    | 10, _ =>
                      refine StepL.val rfl [9] (by decide +kernel) ?_
                      intro v wx hR hd
                      have h9 : v 9 = _ := hd 9 (by simp)
                      exact ⟨wanted_plain rfl _, _, _, x_conv rfl (hq.at_ rfl h9) (conv_u8i hk1 _), hR, Below.refl _ _, rfl⟩
                    | 11, _ =>
                      refine StepL.val rfl [10] (by decide +kernel) ?_
                      intro v wx hR hd
                      have h10 : v 10 = _ := hd 10 (by simp)
                      exact ⟨wanted_plain rfl _, _, _, x_bin rfl (hq.at_ rfl h10) rfl (r_mul (by omega) (by omega) (by omega)), hR, Below.refl _ _, rfl⟩
                    | 12, _ =>
                      refine StepL.val rfl [] (by decide +kernel) ?_
                      intro v wx hR hd
                      exact ⟨wanted_plain rfl _, _, _, x_move rfl (fill_off rfl rfl), hR, Below.refl _ _, rfl⟩
                    | 13, _ =>
                      refine StepL.val rfl [] (by decide +kernel) ?_
                      intro v wx hR hd
                      exact ⟨wanted_plain rfl _, _, _, x_move rfl (fill_off rfl rfl), hR, Below.refl _ _, rfl⟩
                    | 14, _ =>
                      refine StepL.val rfl [13] (by decide +kernel) ?_
                      intro v wx hR hd
                      have h13 : v 13 = _ := hd 13 (by simp)
                      exact ⟨wanted_plain rfl _, _, _, x_bin rfl (hq.at_ rfl h13) rfl (r_add (by omega) (by omega) (by omega)), hR, Below.refl _ _, rfl⟩
                    | 15, _ =>
                      refine StepL.val rfl [12, 14] (by decide +kernel) ?_
                      intro v wx hR hd
                      have h12 : v 12 = _ := hd 12 (by simp)
                      have h14 : v 14 = _ := hd 14 (by simp)
                      exact ⟨wanted_plain rfl _, _, _, x_index rfl (hq.at_ rfl h12) (hq.at_ rfl h14) (r_index (e := 5) (size := 1) (by kernel_rfl) (by kernel_rfl) (by omega) (by omega) (by omega)), hR, Below.refl _ _, rfl⟩
                    | 16, _ =>
                      refine StepL.val rfl [15] (by decide +kernel) ?_
                      intro v wx hR hd
                      have h15 : v 15 = _ := hd 15 (by simp)
                      exact ⟨wanted_plain rfl _, _, _, x_load rfl (hq.at_ rfl h15) (r_load (by kernel_rfl) (pcell_below z2 hR)), hR, Below.refl _ _, rfl⟩
                    | 17, _ =>
                      refine StepL.val rfl [16] (by decide +kernel) ?_
                      intro v wx hR hd
                      have h16 : v 16 = _ := hd 16 (by simp)
                      exact ⟨wanted_plain rfl _, _, _, x_conv rfl (hq.at_ rfl h16) (conv_u8i hk2 _), hR, Below.refl _ _, rfl⟩
                    | 18, _ =>
                      refine StepL.val rfl [11, 17] (by decide +kernel) ?_
                      intro v wx hR hd
                      have h11 : v 11 = _ := hd 11 (by simp)
                      have h17 : v 17 = _ := hd 17 (by simp)
                      exact ⟨wanted_plain rfl _, _, _, x_bin rfl (hq.at_ rfl h11) (hq.at_ rfl h17) (r_add (by omega) (by omega) (by omega)), hR, Below.refl _ _, rfl⟩
                    | 19, _ =>
                      refine StepL.val rfl [4, 18] (by decide +kernel) ?_
                      intro v wx hR hd
                      have h4 : v 4 = _ := hd 4 (by simp)
                      have h18 : v 18 = _ := hd 18 (by simp)
                      exact ⟨wanted_plain rfl _, _, _, x_build rfl (pairs_2 (hq.at_ rfl h4) (hq.at_ rfl h18)) (build_rde _ _ _), hR, Below.refl _ _, rfl⟩
                    | 20, _ =>
                      refine StepL.val rfl [] (by decide +kernel) ?_
                      intro v wx hR hd
                      have hb := pnew wx (.cells #[.slice none 0 0, .int .i64 0, .int .i64 0, .slice none 0 0] 54)
                      exact ⟨wanted_plain rfl _, xe_ex (x_alloc rfl (alloc_rde wx)) ⟨hR.trans (hb.mono hR.size), hb, _, rfl, hR.size, Blk.new wx 54 [.slice none 0 0, .int .i64 0, .int .i64 0, .slice none 0 0]⟩⟩
                    | rz + 21, h => omega
                  · intro v wx hR hV
                    have h19 : v 19 = _ := hV 19 (by omega)
                    obtain ⟨p20, h20, hp20, hk20⟩ : newE wr.heap.size (v 20) wx := hV 20 (by omega)
                    simp only [fillR, Act.put, List.setIfInBounds_toArray, List.set_cons_zero, List.set_cons_succ, List.drop_succ_cons, List.drop_zero, h19, h20]
                    have HR15 := Lib.hid (And.intro hR (And.intro hk20 hp20))
                    clear hV hR h19 h20 hk20 hp20
                    go_wp2_with (refine wpList_store_blk rfl 54 (.tmp 11) (.tmp 80) rfl p20 0 (evC ⟨none, 0, 0, (k0 : Int), ((k1 * 256 + k2 : Nat) : Int), none, 0, 0⟩) rfl rfl HR15.out.2.1 (by simp [evC]) rev_size (evC_one _) ?_; intro w15 hA hO; rw [over_whole (by simp [evC])] at hA; have H15 := Lib.hid (And.intro hA (HR15.out.1.trans (hO.below (B := wr.heap.size) HR15.out.1.size (by have := HR15.out.2.2; simpa using this)))); have z3b := pcell_below z3w H15.out.2; have hcvt := conv_txt (dslice ((H0.out.2.2.below HW.out).below H15.out.2) (at_ + 4) tl (by omega) (by omega)); clear hA hO)
                    have zk0 := pcell_below (pcell_below (byte_at H0.out.2.2 (i := at_ + 4 + tl) (by omega)) HW.out) H15.out.2
                    have zk1 := pcell_below (pcell_below (byte_at H0.out.2.2 (i := at_ + 4 + tl + 1) (by omega)) HW.out) H15.out.2
                    have hd0 := byA_lt b (at_ + 4 + tl)
                    have hd1 := byA_lt b (at_ + 4 + tl + 1)
                    have HDL : Hid (dlA (b.drop at_) = byA b (at_ + 4 + tl) * 256 + byA b (at_ + 4 + tl + 1)) := Lib.hid (by
                      unfold dlA
                      rw [HS.out.2.2.2, ← HTL.out, drop_byA (at_ + 4 + tl) (by omega), drop_byA (at_ + 4 + tl + 1) (by omega)])
                    obtain ⟨d0, hd0'⟩ : ∃ k, k = byA b (at_ + 4 + tl) := ⟨_, rfl⟩
                    obtain ⟨d1, hd1'⟩ : ∃ k, k = byA b (at_ + 4 + tl + 1) := ⟨_, rfl⟩
                    rw [← hd0', ← hd1'] at HDL
                    rw [← hd0'] at zk0 hd0
                    rw [← hd1'] at zk1 hd1
                    clear hd0' hd1'
                    refine wp_hideQ ?_
                    intro QQ hQQ
                    refine wp_region_quick [some 96, some 97, some 98, some 99, some 100, some 101, some 102, some 103, some 104, some 105, some 106, some 107, some 108, some 14] [isV (.slice (some ⟨g, o, none⟩) n c), isV (.int .i64 ((at_ : Int) + 4 + (tl : Int))), isV (.pointer (some ⟨g, o + (at_ + 4 + tl), none⟩)), isV (.int .u8 (d0 : Int)), isV (.int .i64 (d0 : Int)), isV (.int .i64 ((d0 * 256 : Nat) : Int)), isV (.slice (some ⟨g, o, none⟩) n c), isV (.int .i64 ((at_ : Int) + 4 + (tl : Int))), isV (.int .i64 ((at_ + 4 + tl + 1 : Nat) : Int)), isV (.pointer (some ⟨g, o + (at_ + 4 + tl + 1), none⟩)), isV (.int .u8 (d1 : Int)), isV (.int .i64 (d1 : Int)), isV (.int .i64 ((d0 * 256 + d1 : Nat) : Int)), isV (.int .i64 ((d0 * 256 + d1 : Nat) : Int))] 14 (by kernel_rfl) rfl rfl rfl (by kernel_rfl) (by simp [isV.st]) ?_ ?_
                    · intro hq rz hz
                      match rz, hz with
                      | 0, _ =>
                        refine StepL.val rfl [] (by decide +kernel) ?_
                        intro v wx hR hd
                        exact ⟨wanted_plain rfl _, _, _, x_move rfl (fill_off rfl rfl), hR, Below.refl _ _, rfl⟩
                      | 1, _ =>
                        refine StepL.val rfl [] (by decide +kernel) ?_
                        intro v wx hR hd
                        exact ⟨wanted_plain rfl _, _, _, x_move rfl (fill_off rfl rfl), hR, Below.refl _ _, rfl⟩
                      | 2, _ =>
                        refine StepL.val rfl [0, 1] (by decide +kernel) ?_
                        intro v wx hR hd
                        have h0 : v 0 = _ := hd 0 (by simp)
                        have h1 : v 1 = _ := hd 1 (by simp)
                        exact ⟨wanted_plain rfl _, _, _, x_index rfl (hq.at_ rfl h0) (hq.at_ rfl h1) (r_index (e := 5) (size := 1) (by kernel_rfl) (by kernel_rfl) (by omega) (by omega) (by omega)), hR, Below.refl _ _, rfl⟩
                      | 3, _ =>
                        refine StepL.val rfl [2] (by decide +kernel) ?_
                        intro v wx hR hd
                        have h2 : v 2 = _ := hd 2 (by simp)
                        exact ⟨wanted_plain rfl _, _, _, x_load rfl (hq.at_ rfl h2) (r_load (by kernel_rfl) (pcell_below zk0 hR)), hR, Below.refl _ _, rfl⟩
                      | 4, _ =>
                        refine StepL.val rfl [3] (by decide +kernel) ?_
                        intro v wx hR hd
                        have h3 : v 3 = _ := hd 3 (by simp)
                        exact ⟨wanted_plain rfl _, _, _, x_conv rfl (hq.at_ rfl h3) (conv_u8i hd0 _), hR, Below.refl _ _, rfl⟩
                      | 5, _ =>
                        refine StepL.val rfl [4] (by decide +kernel) ?_
                        intro v wx hR hd
                        have h4 : v 4 = _ := hd 4 (by simp)
                        exact ⟨wanted_plain rfl _, _, _, x_bin rfl (hq.at_ rfl h4) rfl (r_mul (by omega) (by omega) (by omega)), hR, Below.refl _ _, rfl⟩
                      | 6, _ =>
                        refine StepL.val rfl [] (by decide +kernel) ?_
                        intro v wx hR hd
                        exact ⟨wanted_plain rfl _, _, _, x_move rfl (fill_off rfl rfl), hR, Below.refl _ _, rfl⟩
                      | 7, _ =>
                        refine StepL.val rfl [] (by decide +kernel) ?_
                        intro v wx hR hd
                        exact ⟨wanted_plain rfl _, _, _, x_move rfl (fill_off rfl rfl), hR, Below.refl _ _, rfl⟩
                      | 8, _ =>
                        refine StepL.val rfl [7] (by decide +kernel) ?_
                        intro v wx hR hd
                        have h7 : v 7 = _ := hd 7 (by simp)
                        exact ⟨wanted_plain rfl _, _, _, x_bin rfl (hq.at_ rfl h7) rfl (r_add (by omega) (by omega) (by omega)), hR, Below.refl _ _, rfl⟩
                      | 9, _ =>
                        refine StepL.val rfl [6, 8] (by decide +kernel) ?_
                        intro v wx hR hd
                        have h6 : v 6 = _ := hd 6 (by simp)
                        have h8 : v 8 = _ := hd 8 (by simp)
                        exact ⟨wanted_plain rfl _, _, _, x_index rfl (hq.at_ rfl h6) (hq.at_ rfl h8) (r_index (e := 5) (size := 1) (by kernel_rfl) (by kernel_rfl) (by omega) (by omega) (by omega)), hR, Below.refl _ _, rfl⟩
                      | 10, _ =>
                        refine StepL.val rfl [9] (by decide +kernel) ?_
                        intro v wx hR hd
                        have h9 : v 9 = _ := hd 9 (by simp)
                        exact ⟨wanted_plain rfl _, _, _, x_load rfl (hq.at_ rfl h9) (r_load (by kernel_rfl) (pcell_below zk1 hR)), hR, Below.refl _ _, rfl⟩
                      | 11, _ =>
                        refine StepL.val rfl [10] (by decide +kernel) ?_
                        intro v wx hR hd
                        have h10 : v 10 = _ := hd 10 (by simp)
                        exact ⟨wanted_plain rfl _, _, _, x_conv rfl (hq.at_ rfl h10) (conv_u8i hd1 _), hR, Below.refl _ _, rfl⟩
                      | 12, _ =>
                        refine StepL.val rfl [5, 11] (by decide +kernel) ?_
                        intro v wx hR hd
                        have h5 : v 5 = _ := hd 5 (by simp)
                        have h11 : v 11 = _ := hd 11 (by simp)
                        exact ⟨wanted_plain rfl _, _, _, x_bin rfl (hq.at_ rfl h5) (hq.at_ rfl h11) (r_add (by omega) (by omega) (by omega)), hR, Below.refl _ _, rfl⟩
                      | 13, _ =>
                        refine StepL.val rfl [12] (by decide +kernel) ?_
                        intro v wx hR hd
                        have h12 : v 12 = _ := hd 12 (by simp)
                        exact ⟨wanted_plain rfl _, _, _, x_assign rfl (hq.at_ rfl h12), hR, Below.refl _ _, rfl⟩
                      | rz + 14, h => omega
                    · intro v wx hR hV
                      have h13 : v 13 = _ := hV 13 (by omega)
                      simp only [fillR, Act.put, List.setIfInBounds_toArray, List.set_cons_zero, List.set_cons_succ, h13]
                      have H18 := Lib.hid (And.intro (H15.out.1.below hR H15.out.1.lt) (H15.out.2.trans (hR.mono H15.out.2.size)))
                      clear hV hR h13
                      obtain ⟨dl, hdl⟩ : ∃ dl, dl = d0 * 256 + d1 := ⟨_, rfl⟩
                      have hdlb : dl < 65536 := by omega
                      rw [← hdl]
                      rw [← hdl] at HDL
                      clear hdl
                      by_cases q3 : n < at_ + 4 + tl + 2 + dl + 8
                      · have HF : Hid (D = ([], i, 4)) := Lib.hid (HOut.out _ 4 (by decide) (HS.out.1.trans (if_neg (by rw [HS.out.2.2.1, HS.out.2.2.2, ← HTL.out, HDL.out]; omega))))
                        have r7 : (n : Int) < (at_ : Int) + 4 + (tl : Int) + 2 + (dl : Int) + 8 := by omega
                        have r8 : decide ((n : Int) < (at_ : Int) + 4 + (tl : Int) + 2 + (dl : Int) + 8) = true := decide_eq_true r7
                        go_wp2_with fail
                        (try rw [Exit.noGoto_ret])
                        go_ret3
                        rw [HF.out]
                        exact ⟨H0.out.1.trans ((HW.out.trans (H18.out.2.mono HW.out.size)).mono H0.out.1.size), .inr ⟨show (4 : Int) ≠ 0 by decide, rfl⟩⟩
                      · have r7 : ((n : Int) < (at_ : Int) + 4 + (tl : Int) + 2 + (dl : Int) + 8) = False := eq_false (by omega)
                        have r8 : decide ((n : Int) < (at_ : Int) + 4 + (tl : Int) + 2 + (dl : Int) + 8) = false := decide_eq_false (by omega)
                        clear zk0 zk1 hd0 hd1 z3b
                        have HQ3 := Lib.hid q3
                        go_wp2_with fail
                        refine (rparse_any wx _).mono ?_
                        rintro e w16 ⟨PA, pc, rfl, hP, hfar, hb16⟩
                        obtain ⟨pr, hpr⟩ : ∃ pr, pr = parseB (txtB ((b.drop (at_ + 4)).take tl)) := ⟨_, rfl⟩
                        rw [← hpr] at hP
                        rw [← hpr]
                        obtain ⟨pp, pz⟩ := pr
                        dsimp only at hP ⊢
                        have HPR := Lib.hid hpr
                        have hpsm : (pz ≠ 0 → pp = []) := fun hh => by
                          have h1 := parse_bad (t := txtB ((b.drop (at_ + 4)).take tl)) (by rw [← hpr]; exact hh)
                          rw [← hpr] at h1
                          exact h1
                        have HPB := Lib.hid hpsm
                        have HC : Hid (candA (b.drop at_) = { path := pp, kind := (k0 : Nat), mode := (k1 * 256 + k2 : Nat), data := (b.drop (at_ + 4 + tl + 2)).take dl }) := Lib.hid (by
                          unfold candA
                          rw [HKN.out.1, HKN.out.2.1, HKN.out.2.2, HS.out.2.2.2, ← HTL.out, HDL.out, List.drop_drop, List.drop_drop, ← hpr, show at_ + (4 + tl + 2) = at_ + 4 + tl + 2 by omega])
                        have HFar := Lib.hid (And.intro hfar H18.out.1.lt)
                        have H16 := Lib.hid (And.intro (H18.out.1.below hb16 H18.out.1.lt) (And.intro (H18.out.2.trans (hb16.mono H18.out.2.size)) (And.intro hP (HS.out.2.1.below (H18.out.2.trans (hb16.mono H18.out.2.size))))))
                        have HLen : Hid (4 + tlA (b.drop at_) + 2 + dlA (b.drop at_) + 8 ≤ (b.drop at_).length) := Lib.hid (by rw [HS.out.2.2.1, HS.out.2.2.2, ← HTL.out, HDL.out]; omega)
                        clear hpr hpsm hP hb16 q3 hfar
                        by_cases hz : pz = 0
                        · subst hz
                          go_wp2_with fail
                          refine wp_hideQ ?_
                          intro QQ hQQ
                          refine wp_region_chainQ [10, 12] [some 126, some 127, some 128, some 129, some 130, some 131, some 132, some 133, some 134, some 135, none, some 136, none] [isV (.slice PA pp.length pc), isV (.slice (some ⟨g, o, none⟩) n c), isV (.int .i64 ((at_ : Int) + 4 + (tl : Int))), isV (.int .i64 ((at_ + 4 + tl + 2 : Nat) : Int)), isV (.int .i64 ((at_ : Int) + 4 + (tl : Int))), isV (.int .i64 ((at_ + 4 + tl + 2 : Nat) : Int)), isV (.int .i64 (dl : Int)), isV (.int .i64 (((at_ + 4 + tl + 2 : Nat) : Int) + (dl : Int))), isV (.slice (some ⟨g, o + (at_ + 4 + tl + 2), none⟩) dl (c - (at_ + 4 + tl + 2))), isV (.pointer (some ⟨p20, 0, none⟩)), isV undef, isV (.pointer (some ⟨p20, 3, none⟩)), isV undef] (fun k => if k = 10 ∨ k = 12 then [p20] else []) (rdR w16.drew p20 [.slice none 0 0, .int .i64 (k0 : Int), .int .i64 ((k1 * 256 + k2 : Nat) : Int), .slice none 0 0] [.slice PA pp.length pc, .int .i64 (k0 : Int), .int .i64 ((k1 * 256 + k2 : Nat) : Int), .slice none 0 0] [.slice PA pp.length pc, .int .i64 (k0 : Int), .int .i64 ((k1 * 256 + k2 : Nat) : Int), .slice (some ⟨g, o + (at_ + 4 + tl + 2), none⟩) dl (c - (at_ + 4 + tl + 2))]) 13 (by kernel_rfl) rfl rfl rfl (by kernel_rfl) (by kernel_rfl) (⟨Only.refl _ _, H16.out.1⟩) ?_ ?_ ?_
                          · intro i k v wy wz hki hv ho
                            match i, hv with
                            | 0, hv => exact hv
                            | 1, hv => exact hv
                            | 2, hv => exact hv
                            | 3, hv => exact hv
                            | 4, hv => exact hv
                            | 5, hv => exact hv
                            | 6, hv => exact hv
                            | 7, hv => exact hv
                            | 8, hv => exact hv
                            | 9, hv => exact hv
                            | 10, hv => exact hv
                            | 11, hv => exact hv
                            | 12, hv => exact hv
                            | i + 13, hv => exact hv
                          · intro hq rz hz
                            match rz, hz with
                            | 0, _ =>
                              refine StepP.val rfl rfl [] (by decide +kernel) ?_
                              intro p hhi hlo v wy hR hd
                              exact ⟨wanted_plain rfl _, _, _, x_move rfl (fill_off rfl rfl), hR, Only.refl _ _, rfl⟩
                            | 1, _ =>
                              refine StepP.val rfl rfl [] (by decide +kernel) ?_
                              intro p hhi hlo v wy hR hd
                              exact ⟨wanted_plain rfl _, _, _, x_move rfl (fill_off rfl rfl), hR, Only.refl _ _, rfl⟩
                            | 2, _ =>
                              refine StepP.val rfl rfl [] (by decide +kernel) ?_
                              intro p hhi hlo v wy hR hd
                              exact ⟨wanted_plain rfl _, _, _, x_move rfl (fill_off rfl rfl), hR, Only.refl _ _, rfl⟩
                            | 3, _ =>
                              refine StepP.val rfl rfl [2] (by decide +kernel) ?_
                              intro p hhi hlo v wy hR hd
                              have h2 : v 2 = _ := hd 2 (by simp)
                              exact ⟨wanted_plain rfl _, _, _, x_bin rfl (hq.at_ rfl h2) rfl (r_add (by omega) (by omega) (by omega)), hR, Only.refl _ _, rfl⟩
                            | 4, _ =>
                              refine StepP.val rfl rfl [] (by decide +kernel) ?_
                              intro p hhi hlo v wy hR hd
                              exact ⟨wanted_plain rfl _, _, _, x_move rfl (fill_off rfl rfl), hR, Only.refl _ _, rfl⟩
                            | 5, _ =>
                              refine StepP.val rfl rfl [4] (by decide +kernel) ?_
                              intro p hhi hlo v wy hR hd
                              have h4 : v 4 = _ := hd 4 (by simp)
                              exact ⟨wanted_plain rfl _, _, _, x_bin rfl (hq.at_ rfl h4) rfl (r_add (by omega) (by omega) (by omega)), hR, Only.refl _ _, rfl⟩
                            | 6, _ =>
                              refine StepP.val rfl rfl [] (by decide +kernel) ?_
                              intro p hhi hlo v wy hR hd
                              exact ⟨wanted_plain rfl _, _, _, x_move rfl (fill_off rfl rfl), hR, Only.refl _ _, rfl⟩
                            | 7, _ =>
                              refine StepP.val rfl rfl [5, 6] (by decide +kernel) ?_
                              intro p hhi hlo v wy hR hd
                              have h5 : v 5 = _ := hd 5 (by simp)
                              have h6 : v 6 = _ := hd 6 (by simp)
                              exact ⟨wanted_plain rfl _, _, _, x_bin rfl (hq.at_ rfl h5) (hq.at_ rfl h6) (r_add (by omega) (by omega) (by omega)), hR, Only.refl _ _, rfl⟩
                            | 8, _ =>
                              refine StepP.val rfl rfl [1, 3, 7] (by decide +kernel) ?_
                              intro p hhi hlo v wy hR hd
                              have h1 : v 1 = _ := hd 1 (by simp)
                              have h3 : v 3 = _ := hd 3 (by simp)
                              have h7 : v 7 = _ := hd 7 (by simp)
                              exact ⟨wanted_plain rfl _, _, _, x_sub_lh (m := dl) rfl (by kernel_rfl) (by kernel_rfl) (hq.at_ rfl h1) (hq.at_ rfl h3) (hq.at_ rfl h7) (by omega) (by have := HQ3.out; omega) (by have := HQ3.out; omega), hR, Only.refl _ _, rfl⟩
                            | 9, _ =>
                              refine StepP.val rfl rfl [] (by decide +kernel) ?_
                              intro p hhi hlo v wy hR hd
                              exact ⟨wanted_plain rfl _, _, _, x_field rfl (fill_off rfl rfl) (r_field (off := 0) (by kernel_rfl)), hR, Only.refl _ _, rfl⟩
                            | 10, _ =>
                              refine StepP.cskip 0 rfl rfl rfl [9, 0] (by decide +kernel) ?_
                              intro v wy hR hd
                              have h9 : v 9 = _ := hd 9 (by simp)
                              have h0 : v 0 = _ := hd 0 (by simp)
                              have hR : Only [p20] w16.drew wy ∧ Blk wy p20 54 [.slice none 0 0, .int .i64 (k0 : Int), .int .i64 ((k1 * 256 + k2 : Nat) : Int), .slice none 0 0] := hR
                              exact ⟨wanted_plain rfl _, _, x_store rfl (hq.at_ rfl h9) (hq.at_ rfl h0) (r_store1 (v := .slice PA pp.length pc) (by kernel_rfl) rfl rfl hR.2 (by simp)), ⟨hR.1.trans (store_only _ _ _ _), store_blk hR.2 (by simp)⟩, store_only _ _ _ _, rfl⟩
                            | 11, _ =>
                              refine StepP.val rfl rfl [] (by decide +kernel) ?_
                              intro p hhi hlo v wy hR hd
                              exact ⟨wanted_plain rfl _, _, _, x_field rfl (fill_off rfl rfl) (r_field (off := 3) (by kernel_rfl)), hR, Only.refl _ _, rfl⟩
                            | 12, _ =>
                              refine StepP.cskip 1 rfl rfl rfl [11, 8] (by decide +kernel) ?_
                              intro v wy hR hd
                              have h11 : v 11 = _ := hd 11 (by simp)
                              have h8 : v 8 = _ := hd 8 (by simp)
                              have hR : Only [p20] w16.drew wy ∧ Blk wy p20 54 [.slice PA pp.length pc, .int .i64 (k0 : Int), .int .i64 ((k1 * 256 + k2 : Nat) : Int), .slice none 0 0] := hR
                              exact ⟨wanted_plain rfl _, _, x_store rfl (hq.at_ rfl h11) (hq.at_ rfl h8) (r_store1 (v := .slice (some ⟨g, o + (at_ + 4 + tl + 2), none⟩) dl (c - (at_ + 4 + tl + 2))) (by kernel_rfl) rfl rfl hR.2 (by simp)), ⟨hR.1.trans (store_only _ _ _ _), store_blk hR.2 (by simp)⟩, store_only _ _ _ _, rfl⟩
                            | rz + 13, h => omega
                          · intro v wz hR hV
                            have hR : Only [p20] w16.drew wz ∧ Blk wz p20 54 (evC ⟨PA, pp.length, pc, (k0 : Int), ((k1 * 256 + k2 : Nat) : Int), some ⟨g, o + (at_ + 4 + tl + 2), none⟩, dl, c - (at_ + 4 + tl + 2)⟩) := hR
                            have hbz : Below wr.heap.size wr wz := (H16.out.2.1.trans ((pdrew w16).mono H16.out.2.1.size)).trans (hR.1.below H16.out.2.1.size (fun k hk => by simp at hk; subst hk; exact HR15.out.2.2))
                            have hps := parse_small (txtB ((b.drop (at_ + 4)).take tl))
                            rw [← HPR.out] at hps
                            have hdz := (dslice H0.out.2.2 (at_ + 4 + tl + 2) dl (by have := HQ3.out; omega) (by have := HQ3.out; omega)).below (HW.out.trans (hbz.mono HW.out.size))
                            have hpz : SIn wz PA pp.length pc pp := (H16.out.2.2.1.below (pdrew w16)).only hR.1 (fun a ha hm => by have h1 := HFar.out.1 a ha; have h2 := HFar.out.2; simp at hm; omega)
                            have hdlen : ((b.drop (at_ + 4 + tl + 2)).take dl).length ≤ 1000000 := by rw [List.length_take]; omega
                            have hev : EvOk wz ⟨PA, pp.length, pc, (k0 : Int), ((k1 * 256 + k2 : Nat) : Int), some ⟨g, o + (at_ + 4 + tl + 2), none⟩, dl, c - (at_ + 4 + tl + 2)⟩ { path := pp, kind := (k0 : Nat), mode := (k1 * 256 + k2 : Nat), data := (b.drop (at_ + 4 + tl + 2)).take dl } := ⟨hpz, rfl, rfl, hdz, ⟨by have := hps.1; show pp.length ≤ _; dsimp only at this; omega, by have := hps.2; show (joinP pp).size ≤ _; dsimp only at this; omega, hdlen⟩⟩
                            have H24 := Lib.hid (And.intro hev (And.intro (HS.out.2.1.below hbz) (And.intro hbz (And.intro hR.2 hps))))
                            obtain ⟨d0, d1, d2, d3⟩ := four_ev hR.2
                            dsimp only at d0 d1 d2 d3
                            clear hV hR hbz hps hdz hpz hdlen hev
                            simp only [fillR, Act.put, List.setIfInBounds_toArray, List.set_cons_zero, List.set_cons_succ]
                            go_wp2_with fail
                            refine (refused_any wz ⟨PA, pp.length, pc, (k0 : Int), ((k1 * 256 + k2 : Nat) : Int), some ⟨g, o + (at_ + 4 + tl + 2), none⟩, dl, c - (at_ + 4 + tl + 2)⟩ { path := pp, kind := (k0 : Nat), mode := (k1 * 256 + k2 : Nat), data := (b.drop (at_ + 4 + tl + 2)).take dl } H24.out.1 A9 i c9 xs9 l0 H24.out.2.1).mono ?_
                            rintro en w25 ⟨rfl, h25⟩
                            obtain ⟨rz, hrz⟩ : ∃ rz, rz = refE { path := pp, kind := (k0 : Nat), mode := (k1 * 256 + k2 : Nat), data := (b.drop (at_ + 4 + tl + 2)).take dl } l0 false := ⟨_, rfl⟩
                            rw [← hrz]
                            have HRZ := Lib.hid hrz
                            have H25 := Lib.hid (And.intro (H24.out.1.below h25) (And.intro (H24.out.2.1.below h25) (And.intro (H24.out.2.2.1.trans (h25.mono H24.out.2.2.1.size)) (H24.out.2.2.2.1.below h25 H24.out.2.2.2.1.lt))))
                            clear hrz h25 d0 d1 d2 d3
                            by_cases hrz0 : rz = 0
                            · subst hrz0
                              go_wp2_with fail
                              have HT25 := Lib.hid (H0.out.2.1.below (HW.out.trans (H25.out.2.2.1.mono HW.out.size)) H0.out.2.1.lt)
                              have HD8 := Lib.hid ((dslice H0.out.2.2 (at_ + 4 + tl + 2 + dl) 8 (by have := HQ3.out; omega) (by have := HQ3.out; omega)).below (HW.out.trans (H25.out.2.2.1.mono HW.out.size)))
                              have HSZ : Hid ((joinP pp).size ≤ 200 ∧ ((b.drop (at_ + 4 + tl + 2)).take dl).length ≤ 512) := Lib.hid ⟨by have := H24.out.2.2.2.2.2; omega, by
                                have h1 := ref_all HRZ.out.symm 4 (by omega)
                                have h2 : longE ((b.drop (at_ + 4 + tl + 2)).take dl) = false := h1
                                unfold longE at h2
                                have h3 := of_decide_eq_false h2
                                omega⟩
                              refine wp_hideQ ?_
                              intro QQ hQQ
                              refine wp_region_quick [some 149, some 150, some 151, some 152, some 153, some 154, some 155, some 156, some 157, some 158] [isV (.slice (some ⟨g, o, none⟩) n c), isV (.int .i64 ((at_ : Int) + 4 + (tl : Int) + 2 + (dl : Int) + 8)), isV (.int .i64 ((at_ + 4 + tl + 2 + dl : Nat) : Int)), isV (.int .i64 ((at_ : Int) + 4 + (tl : Int) + 2 + (dl : Int) + 8)), isV (.slice (some ⟨g, o + (at_ + 4 + tl + 2 + dl), none⟩) 8 (c - (at_ + 4 + tl + 2 + dl))), isV (.agg Tbl.toArray), isV (evV ⟨PA, pp.length, pc, (k0 : Int), ((k1 * 256 + k2 : Nat) : Int), some ⟨g, o + (at_ + 4 + tl + 2), none⟩, dl, c - (at_ + 4 + tl + 2)⟩), dinV 8 (sumE { path := pp, kind := (k0 : Nat), mode := (k1 * 256 + k2 : Nat), data := (b.drop (at_ + 4 + tl + 2)).take dl }), isV (.bool (decide ((b.drop (at_ + 4 + tl + 2 + dl)).take 8 = sumE { path := pp, kind := (k0 : Nat), mode := (k1 * 256 + k2 : Nat), data := (b.drop (at_ + 4 + tl + 2)).take dl }))), isV (.bool (!decide ((b.drop (at_ + 4 + tl + 2 + dl)).take 8 = sumE { path := pp, kind := (k0 : Nat), mode := (k1 * 256 + k2 : Nat), data := (b.drop (at_ + 4 + tl + 2)).take dl })))] 10 (by kernel_rfl) rfl rfl rfl (by kernel_rfl) (by simp [isV.st, dinV.st]) ?_ ?_
                              · intro hq rz hz
                                match rz, hz with
                                | 0, _ =>
                                  refine StepL.val rfl [] (by decide +kernel) ?_
                                  intro v wx hR hd
                                  exact ⟨wanted_plain rfl _, _, _, x_move rfl (fill_off rfl rfl), hR, Below.refl _ _, rfl⟩
                                | 1, _ =>
                                  refine StepL.val rfl [] (by decide +kernel) ?_
                                  intro v wx hR hd
                                  exact ⟨wanted_plain rfl _, _, _, x_move rfl (fill_off rfl rfl), hR, Below.refl _ _, rfl⟩
                                | 2, _ =>
                                  refine StepL.val rfl [1] (by decide +kernel) ?_
                                  intro v wx hR hd
                                  have h1 : v 1 = _ := hd 1 (by simp)
                                  exact ⟨wanted_plain rfl _, _, _, x_bin rfl (hq.at_ rfl h1) rfl (r_sub (by omega) (by omega) (by omega)), hR, Below.refl _ _, rfl⟩
                                | 3, _ =>
                                  refine StepL.val rfl [] (by decide +kernel) ?_
                                  intro v wx hR hd
                                  exact ⟨wanted_plain rfl _, _, _, x_move rfl (fill_off rfl rfl), hR, Below.refl _ _, rfl⟩
                                | 4, _ =>
                                  refine StepL.val rfl [0, 2, 3] (by decide +kernel) ?_
                                  intro v wx hR hd
                                  have h0 : v 0 = _ := hd 0 (by simp)
                                  have h2 : v 2 = _ := hd 2 (by simp)
                                  have h3 : v 3 = _ := hd 3 (by simp)
                                  exact ⟨wanted_plain rfl _, _, _, x_sub_lh (m := 8) rfl (by kernel_rfl) (by kernel_rfl) (hq.at_ rfl h0) (hq.at_ rfl h2) (hq.at_ rfl h3) (by omega) (by have := HQ3.out; omega) (by have := HQ3.out; omega), hR, Below.refl _ _, rfl⟩
                                | 5, _ =>
                                  refine StepL.val rfl [] (by decide +kernel) ?_
                                  intro v wx hR hd
                                  exact ⟨wanted_plain rfl _, _, _, x_load rfl (fill_off rfl rfl) (r_loadR (cs := Tbl) (by rw [Tbl_length]; kernel_rfl) ((HT25.out.below hR HT25.out.lt).range)), hR, Below.refl _ _, rfl⟩
                                | 6, _ =>
                                  refine StepL.val rfl [] (by decide +kernel) ?_
                                  intro v wx hR hd
                                  exact ⟨wanted_plain rfl _, _, _, x_load rfl (fill_off rfl rfl) (r_loadR (cs := evC ⟨PA, pp.length, pc, (k0 : Int), ((k1 * 256 + k2 : Nat) : Int), some ⟨g, o + (at_ + 4 + tl + 2), none⟩, dl, c - (at_ + 4 + tl + 2)⟩) (by kernel_rfl) ((H25.out.2.2.2.below hR H25.out.2.2.2.lt).range)), hR, Below.refl _ _, rfl⟩
                                | 7, _ =>
                                  refine StepL.call rfl [5, 6] (by decide +kernel) ?_
                                  intro v wx hR hd
                                  have h5 : v 5 = _ := hd 5 (by simp)
                                  have h6 : v 6 = _ := hd 6 (by simp)
                                  refine ⟨wanted_plain rfl _, 17, _, _, x_call rfl rfl (args_2 (hq.at_ rfl h5) (hq.at_ rfl h6)) (by kernel_rfl) rfl, ?_⟩
                                  refine (seal_any wx ⟨PA, pp.length, pc, (k0 : Int), ((k1 * 256 + k2 : Nat) : Int), some ⟨g, o + (at_ + 4 + tl + 2), none⟩, dl, c - (at_ + 4 + tl + 2)⟩ { path := pp, kind := (k0 : Nat), mode := (k1 * 256 + k2 : Nat), data := (b.drop (at_ + 4 + tl + 2)).take dl } (H25.out.1.below hR) (by have := HSZ.out.1; show (joinP pp).size ≤ 900; omega) (by have := HSZ.out.2; show ((b.drop (at_ + 4 + tl + 2)).take dl).length ≤ 1000; omega)).mono ?_
                                  rintro en w' ⟨A7, rfl, hd7, h7⟩
                                  exact ⟨_, rfl, hR.trans (h7.mono hR.size), h7, A7, 32, rfl, hd7⟩
                                | 8, _ =>
                                  refine StepL.call rfl [4, 7] (by decide +kernel) ?_
                                  intro v wx hR hd
                                  have h4 : v 4 = _ := hd 4 (by simp)
                                  obtain ⟨A7, c7, h7, hd7⟩ : (dinV 8 (sumE { path := pp, kind := (k0 : Nat), mode := (k1 * 256 + k2 : Nat), data := (b.drop (at_ + 4 + tl + 2)).take dl })) (v 7) wx := hd 7 (by simp)
                                  refine ⟨wanted_plain rfl _, 12, _, _, x_call rfl rfl (args_2 (hq.at_ rfl h4) (hq.at_ rfl h7)) (by kernel_rfl) rfl, ?_⟩
                                  refine (rsame_din (HD8.out.below hR) hd7).mono ?_
                                  rintro en w' ⟨rfl, h7⟩
                                  exact ⟨_, rfl, hR.trans (h7.mono hR.size), h7, rfl⟩
                                | 9, _ =>
                                  refine StepL.val rfl [8] (by decide +kernel) ?_
                                  intro v wx hR hd
                                  have h8 : v 8 = _ := hd 8 (by simp)
                                  exact ⟨wanted_plain rfl _, _, _, x_un rfl (hq.at_ rfl h8) (r_not rfl), hR, Below.refl _ _, rfl⟩
                                | rz + 10, h => omega
                              · intro v w29 hR hV
                                have h9 : v 9 = _ := hV 9 (by omega)
                                simp only [fillR, Act.put, List.setIfInBounds_toArray, List.set_cons_zero, List.set_cons_succ, h9]
                                have H29 := Lib.hid (And.intro (H25.out.1.below hR) (And.intro (H25.out.2.1.below hR) (And.intro (H25.out.2.2.1.trans (hR.mono H25.out.2.2.1.size)) (H25.out.2.2.2.below hR H25.out.2.2.2.lt))))
                                clear hV hR h9
                                have HSM : Hid (sumA (b.drop at_) = (b.drop (at_ + 4 + tl + 2 + dl)).take 8) := Lib.hid (by
                                  unfold sumA
                                  rw [HS.out.2.2.2, ← HTL.out, HDL.out, List.drop_drop, show at_ + (4 + tl + 2 + dl) = at_ + 4 + tl + 2 + dl by omega])
                                by_cases hsm : (b.drop (at_ + 4 + tl + 2 + dl)).take 8 = sumE { path := pp, kind := (k0 : Nat), mode := (k1 * 256 + k2 : Nat), data := (b.drop (at_ + 4 + tl + 2)).take dl }
                                · have HSE := Lib.hid hsm
                                  rw [decide_eq_true hsm]
                                  clear hsm
                                  simp only [Bool.not_true]
                                  go_wp2_with fail
                                  refine wp_hideQ ?_
                                  intro QQ hQQ
                                  refine wp_region_quickT [some 160, some 161, some 162, some 163, some 164] [noV 54 w29.heap.size, isV (.slice A9 i c9), ownSV w29.heap.size 54 4 i (rowE xs9), isV (evV ⟨PA, pp.length, pc, (k0 : Int), ((k1 * 256 + k2 : Nat) : Int), some ⟨g, o + (at_ + 4 + tl + 2), none⟩, dl, c - (at_ + 4 + tl + 2)⟩), rowOneE 54 w29.heap.size (evC ⟨PA, pp.length, pc, (k0 : Int), ((k1 * 256 + k2 : Nat) : Int), some ⟨g, o + (at_ + 4 + tl + 2), none⟩, dl, c - (at_ + 4 + tl + 2)⟩)] 5 7 (by kernel_rfl) rfl rfl rfl rfl (by kernel_rfl) (by kernel_rfl) (by simp [isV.st, noV.st, ownSV.st, rowOneE.st]) ?_ ?_
                                  · intro hq rz hz
                                    match rz, hz with
                                    | 0, _ =>
                                      refine StepL.val rfl [] (by decide +kernel) ?_
                                      intro v wx hR hd
                                      have hb := pnew wx (.cells #[] 54)
                                      exact ⟨wanted_plain rfl _, xe_ex (x_slice (qs := #[]) rfl (by simp) (slice0_re wx)) ⟨hR.trans (hb.mono hR.size), hb, _, rfl, hR.size, Blk.new wx 54 []⟩⟩
                                    | 1, _ =>
                                      refine StepL.val rfl [] (by decide +kernel) ?_
                                      intro v wx hR hd
                                      exact ⟨wanted_plain rfl _, _, _, x_move rfl (fill_off rfl rfl), hR, Below.refl _ _, rfl⟩
                                    | 2, _ =>
                                      refine StepL.val rfl [0, 1] (by decide +kernel) ?_
                                      intro v wx hR hd
                                      obtain ⟨p0, h0, hp0, hk0⟩ : (noV 54 w29.heap.size) (v 0) wx := hd 0 (by simp)
                                      have h1 : v 1 = _ := hd 1 (by simp)
                                      exact ⟨wanted_plain rfl _, xe_app_zeroG (N := w29.heap.size) rfl Tryz.underlying27 rev_info12 rfl (by decide) (hq.at_ rfl h0) hp0 hk0 (hq.at_ rfl h1) (rowE xs9) (by rw [rowE_length, H29.out.2.1.len]) (fun h0 => (H29.out.2.1.below hR).rows (by omega)) (rowE_one _) (by omega) (by decide) hR.size (fun R' c' w' k1 k2 => ⟨hR.trans (k2.mono hR.size), k2, _, _, rfl, k1⟩)⟩
                                    | 3, _ =>
                                      refine StepL.val rfl [] (by decide +kernel) ?_
                                      intro v wx hR hd
                                      exact ⟨wanted_plain rfl _, _, _, x_load rfl (fill_off rfl rfl) (r_loadR (cs := evC ⟨PA, pp.length, pc, (k0 : Int), ((k1 * 256 + k2 : Nat) : Int), some ⟨g, o + (at_ + 4 + tl + 2), none⟩, dl, c - (at_ + 4 + tl + 2)⟩) (by kernel_rfl) ((H29.out.2.2.2.below hR H29.out.2.2.2.lt).range)), hR, Below.refl _ _, rfl⟩
                                    | 4, _ =>
                                      refine StepL.val rfl [3] (by decide +kernel) ?_
                                      intro v wx hR hd
                                      have h3 : v 3 = _ := hd 3 (by simp)
                                      have hb := pnew wx (.cells (evC ⟨PA, pp.length, pc, (k0 : Int), ((k1 * 256 + k2 : Nat) : Int), some ⟨g, o + (at_ + 4 + tl + 2), none⟩, dl, c - (at_ + 4 + tl + 2)⟩).toArray 54)
                                      exact ⟨wanted_plain rfl _, xe_ex (x_slice rfl (pairs_1 (hq.at_ rfl h3)) (slice_rev12 wx ⟨PA, pp.length, pc, (k0 : Int), ((k1 * 256 + k2 : Nat) : Int), some ⟨g, o + (at_ + 4 + tl + 2), none⟩, dl, c - (at_ + 4 + tl + 2)⟩)) ⟨hR.trans (hb.mono hR.size), hb, _, rfl, hR.size, Blk.new wx 54 (evC ⟨PA, pp.length, pc, (k0 : Int), ((k1 * 256 + k2 : Nat) : Int), some ⟨g, o + (at_ + 4 + tl + 2), none⟩, dl, c - (at_ + 4 + tl + 2)⟩)⟩⟩
                                    | rz + 5, h => omega
                                  · intro v w30 hR hV
                                    obtain ⟨R2, c2, h2, ho2⟩ : ownSV w29.heap.size 54 4 i (rowE xs9) (v 2) w30 := hV 2 (by omega)
                                    obtain ⟨p4, h4, hp4, hk4⟩ : rowOneE 54 w29.heap.size (evC ⟨PA, pp.length, pc, (k0 : Int), ((k1 * 256 + k2 : Nat) : Int), some ⟨g, o + (at_ + 4 + tl + 2), none⟩, dl, c - (at_ + 4 + tl + 2)⟩) (v 4) w30 := hV 4 (by omega)
                                    simp only [fillR, Act.put, List.setIfInBounds_toArray, List.set_cons_zero, List.set_cons_succ, List.drop_succ_cons, List.drop_zero, h2, h4]
                                    refine wpList_app (v := .slice R2 i c2) (base := w29.heap.size) (n := i) rfl rfl Tryz.underlying27 rev_info12 rfl (by decide) (evC ⟨PA, pp.length, pc, (k0 : Int), ((k1 * 256 + k2 : Nat) : Int), some ⟨g, o + (at_ + 4 + tl + 2), none⟩, dl, c - (at_ + 4 + tl + 2)⟩) rfl ho2 rfl rfl (fun _ => ⟨_, _, rfl, fun j u hu => by rw [Nat.zero_add]; exact (hk4.cell j).trans hu⟩) (evC_one _) (by omega) (by decide) hR.size ?_
                                    intro v9 w31 x1 x2 x3
                                    have hb3 : Below w29.heap.size w29 w31 := hR.trans (x2.below hR.size (fun b hb => (ho2.lt b (by simpa using hb)).1))
                                    obtain ⟨B9, e9, rfl, h9⟩ := ein_push H29.out.2.1 H29.out.1 hb3 x1
                                    have HN : Hid (entsR (i + 1) ⟨b.drop 5, false⟩ [] = ⟨⟨b.drop (at_ + 4 + tl + 2 + dl + 8), false⟩, l0 ++ [{ path := pp, kind := (k0 : Nat), mode := (k1 * 256 + k2 : Nat), data := (b.drop (at_ + 4 + tl + 2)).take dl }], 0⟩) := Lib.hid (HS.out.1.trans (by
                                      rw [if_pos HLen.out, HC.out, ← HRZ.out, if_pos rfl, HSM.out, if_pos HSE.out, HS.out.2.2.2, ← HTL.out, HDL.out, List.drop_drop, show at_ + (4 + tl + 2 + dl + 8) = at_ + 4 + tl + 2 + dl + 8 by omega]))
                                    have H31 := Lib.hid (And.intro h9 (HW.out.trans ((H29.out.2.2.1.trans (hb3.mono H29.out.2.2.1.size)).mono HW.out.size)))
                                    clear x1 x2 x3 hb3 h9 hR hV h2 ho2 h4 hp4 hk4
                                    go_wp2_with fail
                                    exact ⟨⟨i + 1, at_ + 4 + tl + 2 + dl + 8, B9, e9, by omega, by omega, by have := HQ3.out; omega, by go_num, by go_num, rfl, Lib.hid ⟨by rw [HN.out], by rw [HN.out], xs9 ++ [⟨PA, pp.length, pc, (k0 : Int), ((k1 * 256 + k2 : Nat) : Int), some ⟨g, o + (at_ + 4 + tl + 2), none⟩, dl, c - (at_ + 4 + tl + 2)⟩], by rw [HN.out]; exact H31.out.1⟩, Lib.hid H31.out.2⟩, by simp [intOf]; omega⟩
                                · have HF : Hid (D = ([], i, 5)) := Lib.hid (HOut.out _ 5 (by decide) (HS.out.1.trans (by rw [if_pos HLen.out, HC.out, ← HRZ.out, if_pos rfl, HSM.out, if_neg hsm])))
                                  rw [decide_eq_false hsm]
                                  clear hsm
                                  simp only [Bool.not_false]
                                  go_wp2_with fail
                                  (try rw [Exit.noGoto_ret])
                                  go_ret3
                                  rw [HF.out]
                                  exact ⟨H0.out.1.trans ((HW.out.trans (H29.out.2.2.1.mono HW.out.size)).mono H0.out.1.size), .inr ⟨show (5 : Int) ≠ 0 by decide, rfl⟩⟩
                            · have HF : Hid (D = ([], i, rz)) := Lib.hid (HOut.out _ rz hrz0 (HS.out.1.trans (by rw [if_pos HLen.out, HC.out, ← HRZ.out, if_neg hrz0])))
                              have r9 : (rz = 0) = False := eq_false hrz0
                              have r9b : (rz != 0) = true := by simp [hrz0]
                              have HNE := Lib.hid hrz0
                              clear hrz0
                              go_wp2_with fail
                              (try rw [Exit.noGoto_ret])
                              go_ret3
                              rw [HF.out]
                              exact ⟨H0.out.1.trans ((HW.out.trans (H25.out.2.2.1.mono HW.out.size)).mono H0.out.1.size), .inr ⟨HNE.out, rfl⟩⟩
                        · have HF : Hid (D = ([], i, 10)) := Lib.hid (HOut.out _ 10 (by decide) (HS.out.1.trans (by
                            have hn := refE_nopath (e := candA (b.drop at_)) (l := l0) (b := false) (by rw [HC.out]; exact HPB.out hz)
                            rw [if_pos HLen.out, if_neg (by rw [hn]; decide), hn])))
                          have r9 : (pz = 0) = False := eq_false hz
                          go_wp2_with fail
                          (try rw [Exit.noGoto_ret])
                          go_ret3
                          rw [HF.out]
                          exact ⟨H0.out.1.trans ((HW.out.trans (H16.out.2.1.mono HW.out.size)).mono H0.out.1.size), .inr ⟨show (10 : Int) ≠ 0 by decide, rfl⟩⟩
            · have hic : i = cnt := by omega
              have HIe := Lib.hid hI
              have ha := HA2.out
              rw [← hic, h0, hst, ← hl0, if_pos rfl] at ha
              dsimp only at ha
              rw [hll] at ha
              have e1 : ((i : Int) < (cnt : Int)) = False := eq_false (by omega)
              have e2 : decide ((i : Int) < (cnt : Int)) = false := decide_eq_false (by omega)
              by_cases q : at_ < n
              · have HF : Hid (D = ([], cnt, 3)) := Lib.hid (by
                  rw [if_pos (by omega : 0 < n - at_)] at ha
                  rw [HD.out, decB_by ha, if_pos HP.out]
                  dsimp only
                  rw [if_neg (by decide), hel, hic])
                have e3 : (at_ : Int) < (n : Int) := by omega
                have e4 : decide ((at_ : Int) < (n : Int)) = true := decide_eq_true e3
                clear h0 hst hsn hstp hll htl hI hl0 hel HI ha
                go_wp2_with fail
                (try rw [Exit.noGoto_ret])
                go_ret3
                rw [HF.out]
                exact ⟨H0.out.1.trans (HW.out.mono H0.out.1.size), .inr ⟨show (3 : Int) ≠ 0 by decide, rfl⟩⟩
              · have HF : Hid (D = (l0, cnt, 0)) := Lib.hid (by
                  rw [if_neg (by omega : ¬ 0 < n - at_)] at ha
                  rw [HD.out, decB_by ha, if_pos HP.out]
                  dsimp only
                  rw [if_pos rfl, hel, hic])
                have HEl := Lib.hid hel
                have e3 : ((at_ : Int) < (n : Int)) = False := eq_false (by omega)
                have e4 : decide ((at_ : Int) < (n : Int)) = false := decide_eq_false (by omega)
                clear h0 hst hsn hstp hll htl hI hl0 hel HI ha
                go_wp2_with fail
                (try rw [Exit.noGoto_ret])
                go_ret3
                rw [HF.out]
                refine ⟨H0.out.1.trans (HW.out.mono H0.out.1.size), .inl ⟨rfl, A9, c9, xs9, ?_, ?_⟩⟩
                · show Ending.returned (.tuple #[.slice A9 i c9, .int .i64 (cnt : Nat), .int .i64 0]) = Ending.returned (.tuple #[.slice A9 l0.length c9, .int .i64 (cnt : Nat), .int .i64 0])
                  rw [HEl.out]
                · dsimp only
                  rw [HEl.out]
                  exact HIe.out
    · have hp1 : (T.toList == [67, 82, 69, 76]) = false := by rw [htx, decide_eq_false hp]
      have HF : Hid (D = ([], 0, 3)) := Lib.hid (by
        rw [HD.out]
        unfold decB
        rw [if_neg hp])
      clear htx hp
      go_wp2_with fail
      go_ret3
      rw [HF.out]
      exact ⟨H0.out.1, .inr ⟨by decide, rfl⟩⟩
end Go.Proofs.YtlpljedacohngaaGreatDoor
end
