/-
  Where reading stands: whether it has ended, what is passed, and what is skipped; walked. Conditions: the reader's cells lie in memory; sizes.
-/
import Derived.Test.YtammomjnigalbaaLMeas
import Derived.Test.YtammomjnigalbaaLLex
import Derived.Test.YtammomjnigalbaaRApp
set_option linter.unusedSimpArgs false
set_option linter.unusedVariables false
set_option maxRecDepth 100000
namespace Go.Proofs.Ytammomjnigalbaa
open Go.RowKit

/-- A value of one cell stored into a block that is known. -/
theorem lstore_v {P : Program} {ops : Array Oper} {rest : List Oper} {op : Oper} {a : Act} {w : World} {Q : Exit → Act → World → Prop} (hgd : op.guard = none) (hd : op.dst = none) (ty : TypeId) (x y : Operand) (ho : op.op = .store ty x y)
    (b o : Nat) (v : Value) (hx : a.eval x = .pointer (some ⟨b, o, none⟩)) (hy : a.eval y = v) {t : TypeId} {cs : List Value}
    (hb : Blk w b t cs) (hn : o < cs.length) (hi : (P.info? ty).map (·.size) = some 1) (h1 : v.oneCell' = true) (hv : v.cells = #[v])
    (h : ∀ w', Blk w' b t (cs.set o v) → Only [b] w w' → wpList P ops Q rest a w') : wpList P ops Q (op :: rest) a w := by
  have hr := r_store1 hi h1 hv hb hn
  have hB : Blk (w.setCells b o [v]) b t (over cs o [v]) := hb.setCells [v] o (by simp; omega)
  have hO : Only [b] w (w.setCells b o [v]) := Only.setCells [v] b o (Only.refl _ _) (.inl (by simp))
  refine wpList_plain hgd fun K hK => ?_
  unfold Oper.wp execOp
  simp only [ho, hx, hy, Sem.run_bind, Sem.run_pure, Result.andThen_ok, hr]
  exact hK _ _ (by rw [hd]; exact h _ (over_one hn ▸ hB) hO)
/-- The reader's cells. -/
abbrev RdB (w : World) (g : Nat) (t : ByteArray) (n : Nat) (lv : Value) : Prop := Blk w g 46 [.string t, .int .i64 (n : Int), lv]
set_option maxHeartbeats 1000000 in
theorem ended_any (w : World) (g : Nat) (t : ByteArray) (n : Nat) (lv : Value) (h : RdB w g t n lv) :
    Calls Try.prog 20 #[.pointer (some ⟨g, 0, none⟩)] w fun e w' => e = .returned (.bool (decide (t.size = 0))) ∧ w' = w := by
  have y0 : w.cell? ⟨g, 0, none⟩ = some (.string t) := (h.cell 0).trans rfl
  clear h
  by_cases hz : t.size = 0
  · have hb : bsL t = [] := List.eq_nil_of_length_eq_zero (by rw [bs_len]; exact hz)
    have i1 : t = ByteArray.empty := ba_ext.2 hb
    have HD : Hid (decide (t.size = 0) = true) := Lib.hid (decide_eq_true hz)
    subst i1
    clear hb hz
    go_enter Try.func20, Try.ntmps20
    go_wp2_with fail
    go_ret
    exact ⟨pret_bool (by rw [HD.out]; try rfl), rfl⟩
  · have i1 : ¬ t = ByteArray.empty := fun h => hz (by rw [h]; rfl)
    have i3 : ¬ t.toList = [] := by
      rw [toList_bs]
      intro h
      have := bs_len t
      rw [h] at this
      exact hz this.symm
    have i4 : (t.toList == []) = false := by simpa using i3
    have i5 : t.toList.isEmpty = false := by simpa using i3
    have i6 : ¬ (t.size : Int) = 0 := by omega
    have HD : Hid (decide (t.size = 0) = false) := Lib.hid (decide_eq_false hz)
    clear hz
    go_enter Try.func20, Try.ntmps20
    go_wp2_with fail
    go_ret
    exact ⟨pret_bool (by rw [HD.out]), rfl⟩
set_option maxHeartbeats 1000000 in
theorem pass_any (w : World) (g : Nat) (t : ByteArray) (n : Nat) (lv : Value) (h : RdB w g t n lv) (k : Nat) (hk : k ≤ t.size) (hbig : t.size ≤ 1000000) :
    Calls Try.prog 22 #[.pointer (some ⟨g, 0, none⟩), .int .i64 (k : Int)] w fun e w' => e = .returned (.string (t.extract 0 k)) ∧ Only [g] w w' ∧ RdB w' g (t.extract k t.size) n lv := by
  have y0 : w.cell? ⟨g, 0, none⟩ = some (.string t) := (h.cell 0).trans rfl
  have H := Lib.hid h
  have b0 : (0 : Int) ≤ (k : Int) := by omega
  have b1 : (k : Int) ≤ (t.size : Int) := by omega
  clear h
  go_enter Try.func22, Try.ntmps22
  go_wp2_with (refine lstore_v (v := .string (t.extract k t.size)) rfl rfl 9 (.tmp 20) (.tmp 18) rfl g 0 rfl rfl H.out (by simp) (by kernel_rfl) rfl rfl ?_; intro w2 hA hO; have H2 := Lib.hid (And.intro hA hO); clear hA hO)
  go_ret
  exact ⟨rfl, H2.out.2, H2.out.1⟩

/-! Skipping. -/
/-- What is left behind a gap, and the line there. -/
def skp (line : Nat) (l : By) : By × Nat := (l.drop (gapL false l), line + nlsL (l.take (gapL false l)))
theorem skp_nil (line : Nat) : skp line [] = ([], line) := by simp [skp, nlsL]
theorem skp_other {line : Nat} {c : UInt8} {r : By} (h : lBlank c = false) : skp line (c :: r) = (c :: r, line) := by
  unfold skp
  rw [gapL_cons, h]
  simp [nlsL]
theorem skp_one {line : Nat} {c : UInt8} {r : By} (h : lBlank c = true) (h35 : ¬ c.toNat = 35) : skp line (c :: r) = skp (line + if c.toNat = 10 then 1 else 0) r := by
  have e : (if c.toNat = 10 then false else false || decide (c.toNat = 35)) = false := by split <;> simp [h35]
  unfold skp
  rw [gapL_cons, if_pos (by simp [h]), e, List.drop_succ_cons, List.take_succ_cons]
  unfold nlsL
  rw [List.countP_cons]
  by_cases h10 : c.toNat = 10
  · simp [h10]; omega
  · simp [h10]
theorem gapL_note (l : By) : gapL true l = spanL lLine l + gapL false (l.drop (spanL lLine l)) := by
  induction l with
  | nil => rfl
  | cons c r ih =>
    by_cases h : c.toNat = 10
    · have h0 : lLine c = false := by unfold lLine; simp [h]
      have e1 : gapL true (c :: r) = gapL false r + 1 := by rw [gapL_cons, if_pos (by simp), if_pos h]
      have e2 : gapL false (c :: r) = gapL false r + 1 := by rw [gapL_cons, if_pos (by simp [nl_word c h]), if_pos h]
      rw [spanL_one h0, List.drop_zero, Nat.zero_add, e1, e2]
    · have h0 : lLine c = true := by unfold lLine; simp [h]
      have e : spanL lLine (c :: r) = spanL lLine r + 1 := by unfold spanL; rw [List.takeWhile_cons, if_pos h0, List.length_cons]
      rw [gapL_cons, if_pos (by simp), if_neg h, Bool.true_or, ih, e, List.drop_succ_cons]
      omega
theorem line_none {l : By} : nlsL (l.take (spanL lLine l)) = 0 := nlsL_none fun c hc => by
  have := spanL_take (p := lLine) l c hc
  unfold lLine at this
  simpa using this
theorem skp_note {line : Nat} {c : UInt8} {r : By} (h : c.toNat = 35) : skp line (c :: r) = skp line ((c :: r).drop (spanL lLine (c :: r))) := by
  have hl : lLine c = true := by unfold lLine; simp [h]
  have hb : lBlank c = true := by unfold lBlank; simp [h]
  have e : spanL lLine (c :: r) = spanL lLine r + 1 := by unfold spanL; rw [List.takeWhile_cons, if_pos hl, List.length_cons]
  have e2 : gapL false (c :: r) = spanL lLine (c :: r) + gapL false ((c :: r).drop (spanL lLine (c :: r))) := by
    rw [gapL_cons, if_pos (by simp [hb]), if_neg (by omega), show (false || decide (c.toNat = 35)) = true by simp [h], gapL_note r, e, List.drop_succ_cons]
    omega
  unfold skp
  rw [e2, ← List.drop_drop, List.take_add, nlsL_app, line_none, Nat.zero_add]
theorem skp_len (line : Nat) (l : By) : (skp line l).1.length ≤ l.length := by unfold skp; simp
/-- How much is left, by the memory. -/
def lftM (g : Nat) (w : World) : Nat := match w.cell? ⟨g, 0, none⟩ with
  | some (.string t) => t.size
  | _ => 0
theorem lftM_is {w : World} {g n : Nat} {t : ByteArray} {lv : Value} (h : RdB w g t n lv) : lftM g w = t.size := by
  have y0 : w.cell? ⟨g, 0, none⟩ = some (.string t) := (h.cell 0).trans rfl
  unfold lftM
  rw [y0]
theorem ext_size (t : ByteArray) (k : Nat) (hk : k ≤ t.size) : (t.extract k t.size).size = t.size - k := by rw [ByteArray.size_extract]; omega
set_option maxHeartbeats 4000000 in
theorem skip_any (w : World) (g : Nat) (t : ByteArray) (n : Nat) (lv : Value) (h : RdB w g t n lv) (hbig : t.size ≤ 1000000) (hn : n ≤ 1000000) :
    Calls Try.prog 19 #[.pointer (some ⟨g, 0, none⟩)] w fun e w' => e = .returned (.tuple #[]) ∧ Only [g] w w' ∧ ∃ t', bsL t' = (skp n (bsL t)).1 ∧ t'.size ≤ t.size ∧ RdB w' g t' (skp n (bsL t)).2 lv := by
  obtain ⟨F, hF⟩ : ∃ F, skp n (bsL t) = F := ⟨_, rfl⟩
  rw [hF]
  have H := Lib.hid (And.intro h hF)
  clear h hF
  go_enter Try.func19, Try.ntmps19
  go_wp2_with fail
  go_step3
  go_wp2_with fail
  go_step3
  go_wp2_with fail
  go_loopw [] (fun wr => ∃ (s : ByteArray) (m : Nat), s.size ≤ t.size ∧ m + s.size ≤ n + t.size ∧ RdB wr g s m lv ∧ Hid (skp m (bsL s) = F) ∧ Hid (Only [g] w wr)) (fun wr => lftM g wr)
  case atStart => exact ⟨t, n, Nat.le_refl _, Nat.le_refl _, H.out.1, Lib.hid H.out.2, Lib.hid (Only.refl _ _)⟩
  case round =>
    obtain ⟨s, m, hs, hm, hB, HF, HO⟩ := hrel
    have HM := Lib.hid (lftM_is hB)
    have HB := Lib.hid hB
    have HE := Lib.hid (ended_any wr g s m lv hB)
    clear hB
    by_cases hz : s.size = 0
    · have hd : decide (s.size = 0) = true := decide_eq_true hz
      have HZ : Hid (bsL s = []) := Lib.hid (List.eq_nil_of_length_eq_zero (by rw [bs_len]; exact hz))
      clear hz
      go_wp2_with fail
      refine HE.out.mono ?_
      rintro e w2 ⟨rfl, rfl⟩
      rw [hd]
      go_wp2_with fail
      rw [Exit.noGoto_normal]
      go_end0
      have hf := HF.out
      rw [HZ.out, skp_nil] at hf
      subst hf
      exact ⟨rfl, HO.out, s, HZ.out, hs, HB.out⟩
    · have hd : decide (s.size = 0) = false := decide_eq_false hz
      obtain ⟨c, r, hc⟩ : ∃ c r, bsL s = c :: r := by
        cases hb : bsL s with
        | nil => exact absurd (by rw [← bs_len, hb]; rfl) hz
        | cons c r => exact ⟨c, r, rfl⟩
      have hx := fun W => bs_index s 0 c (by rw [hc]; rfl) W
      have i6 : (0 : Int) < (s.size : Int) := by omega
      have i7 : (1 : Int) ≤ (s.size : Int) := by omega
      have i8 : ∀ h : 0 < s.size, ((s[0]'h).toNat : Int) = (c.toNat : Int) := by
        intro h
        obtain ⟨h1, h2⟩ := List.getElem?_eq_some_iff.1 (show (bsL s)[0]? = some c by rw [hc]; rfl)
        rw [ByteArray.getElem_eq_getElem_data, ← Array.getElem_toList, h2]
      have y0 : wr.cell? ⟨g, 0, none⟩ = some (.string s) := (HB.out.cell 0).trans rfl
      have HC := Lib.hid (And.intro hc hz)
      clear hc hz
      go_wp2_with fail
      refine HE.out.mono ?_
      rintro e w2 ⟨rfl, rfl⟩
      rw [hd]
      by_cases h32 : (c.toNat : Int) = 32
      · obtain ⟨e1, e2, e3, e4⟩ := eq_facts c.toNat 32 h32
        have HG : Hid (skp m (bsL (s.extract 1 s.size)) = F) := Lib.hid (by
          rw [bs_drop, HC.out.1, List.drop_succ_cons, List.drop_zero, ← HF.out, HC.out.1, skp_one (by unfold lBlank; simp; omega) (by omega), if_neg (by omega), Nat.add_zero])
        clear h32
        go_wp2_with fail
        refine (pass_any w2 g s m lv HB.out 1 (by omega) (by omega)).mono ?_
        rintro e w3 ⟨rfl, hO, hB⟩
        have H3 := Lib.hid (And.intro (HO.out.trans (hO.mono (by simp))) hB)
        clear hO hB
        go_wp2_with fail
        exact ⟨⟨s.extract 1 s.size, m, by rw [ext_size _ _ (by omega)]; omega, by rw [ext_size _ _ (by omega)]; omega, H3.out.2, HG, Lib.hid H3.out.1⟩, by rw [lftM_is H3.out.2, HM.out, ext_size _ _ (by omega)]; omega⟩
      · obtain ⟨e1, e2, e3, e4⟩ := ne_facts c.toNat 32 h32
        by_cases h9 : (c.toNat : Int) = 9
        · obtain ⟨f1, f2, f3, f4⟩ := eq_facts c.toNat 9 h9
          have HG : Hid (skp m (bsL (s.extract 1 s.size)) = F) := Lib.hid (by
            rw [bs_drop, HC.out.1, List.drop_succ_cons, List.drop_zero, ← HF.out, HC.out.1, skp_one (by unfold lBlank; simp; omega) (by omega), if_neg (by omega), Nat.add_zero])
          clear h32 h9
          go_wp2_with fail
          refine (pass_any w2 g s m lv HB.out 1 (by omega) (by omega)).mono ?_
          rintro e w3 ⟨rfl, hO, hB⟩
          have H3 := Lib.hid (And.intro (HO.out.trans (hO.mono (by simp))) hB)
          clear hO hB
          go_wp2_with fail
          exact ⟨⟨s.extract 1 s.size, m, by rw [ext_size _ _ (by omega)]; omega, by rw [ext_size _ _ (by omega)]; omega, H3.out.2, HG, Lib.hid H3.out.1⟩, by rw [lftM_is H3.out.2, HM.out, ext_size _ _ (by omega)]; omega⟩
        · obtain ⟨f1, f2, f3, f4⟩ := ne_facts c.toNat 9 h9
          by_cases h10 : (c.toNat : Int) = 10
          · obtain ⟨g1, g2, g3, g4⟩ := eq_facts c.toNat 10 h10
            have HG : Hid (skp (m + 1) (bsL (s.extract 1 s.size)) = F) := Lib.hid (by
              rw [bs_drop, HC.out.1, List.drop_succ_cons, List.drop_zero, ← HF.out, HC.out.1, skp_one (by unfold lBlank; simp; omega) (by omega), if_pos (by omega)])
            clear h32 h9 h10
            go_wp2_with fail
            refine (pass_any w2 g s m lv HB.out 1 (by omega) (by omega)).mono ?_
            rintro e w3 ⟨rfl, hO, hB⟩
            have y1 : w3.cell? ⟨g, 1, none⟩ = some (.int .i64 (m : Int)) := (hB.cell 1).trans rfl
            have H3 := Lib.hid (And.intro (HO.out.trans (hO.mono (by simp))) hB)
            clear hO hB
            go_wp2_with (refine lstore_v (v := .int .i64 ((m : Int) + 1)) rfl rfl 3 (.tmp 25) (.tmp 23) rfl g 1 rfl rfl H3.out.2 (by simp) (by kernel_rfl) rfl rfl ?_; intro w4 hA hO; have H4 := Lib.hid (And.intro hA (H3.out.1.trans (hO.mono (by simp)))); clear hA hO)
            go_roundw
            case rel => exact ⟨s.extract 1 s.size, m + 1, by rw [ext_size _ _ (by omega)]; omega, by rw [ext_size _ _ (by omega)]; omega, H4.out.1, HG, Lib.hid H4.out.2⟩
            case measure => rw [lftM_is (n := m + 1) H4.out.1, HM.out, ext_size _ _ (by omega)]; omega
          · obtain ⟨g1, g2, g3, g4⟩ := ne_facts c.toNat 10 h10
            by_cases h35 : (c.toNat : Int) = 35
            · obtain ⟨j1, j2, j3, j4⟩ := eq_facts c.toNat 35 h35
              obtain ⟨k, hk⟩ : ∃ k, spanL lLine (bsL s) = k := ⟨_, rfl⟩
              have hkl := spanL_le lLine (bsL s)
              rw [bs_len, hk] at hkl
              have hkp : 0 < k := by
                rw [← hk, HC.out.1]
                exact spanL_pos (by unfold lLine; simp; omega)
              have HG : Hid (skp m (bsL (s.extract k s.size)) = F) := Lib.hid (by
                rw [bs_drop, ← hk, ← HF.out, HC.out.1, ← skp_note (by omega)])
              have HR := run_inLine w2 s (by omega)
              rw [hk] at HR
              have HR2 := Lib.hid HR
              clear h32 h9 h10 h35 hk HR
              go_wp2_with fail
              refine HR2.out.mono ?_
              rintro e w3 ⟨rfl, h3⟩
              have hB3 := HB.out.below h3 HB.out.lt
              have HQ := Lib.hid (And.intro hB3 (HO.out.trans (Only.of_below h3)))
              clear h3 hB3
              go_wp2_with fail
              refine (pass_any w3 g s m lv HQ.out.1 k hkl (by omega)).mono ?_
              rintro e w4 ⟨rfl, hO, hB⟩
              have H3 := Lib.hid (And.intro (HQ.out.2.trans (hO.mono (by simp))) hB)
              clear hO hB
              go_wp2_with fail
              exact ⟨⟨s.extract k s.size, m, by rw [ext_size _ _ hkl]; omega, by rw [ext_size _ _ hkl]; omega, H3.out.2, HG, Lib.hid H3.out.1⟩, by rw [lftM_is H3.out.2, HM.out, ext_size _ _ hkl]; omega⟩
            · obtain ⟨j1, j2, j3, j4⟩ := ne_facts c.toNat 35 h35
              have HG : Hid (F = (bsL s, m)) := Lib.hid (by
                rw [← HF.out, HC.out.1, skp_other (by unfold lBlank; simp; omega)])
              clear h32 h9 h10 h35
              go_wp2_with fail
              rw [Exit.noGoto_normal]
              go_end0
              rw [HG.out]
              exact ⟨rfl, HO.out, s, rfl, hs, HB.out⟩
end Go.Proofs.Ytammomjnigalbaa
