/-
  What is known of entries that Check takes: plainly. Plain theorems; no condition.
-/
import Derived.Test.YtlpljedacohngaaGreatDoorM23
import Derived.Test.YtlpljedacohngaaGreatDoorM27
import Derived.Test.YtlpljedacohngaaGreatDoorM28
import Derived.Test.YtlpljedacohngaaGreatDoorM21
import Derived.Test.YtlpljedacohngaaGreatDoorM6
section
set_option linter.unusedSimpArgs false
set_option linter.unusedVariables false
set_option maxRecDepth 100000
namespace Go.Proofs.YtlpljedacohngaaGreatDoor
open Go.RowKit

theorem and_nat64 (a d : Nat) (ha : a < 9223372036854775808) (hd : d < 9223372036854775808) : bits .and .i64 (a : Int) (d : Int) = ((a &&& d : Nat) : Int) := by
  unfold bits
  simp only [IntKind.bits]
  have e : (BitVec.ofInt 64 (a : Int) &&& BitVec.ofInt 64 (d : Int)).toNat = a &&& d := by
    rw [BitVec.toNat_and, ofInt_nat (by omega) (by omega), ofInt_nat (by omega) (by omega), Int.toNat_natCast, Int.toNat_natCast]
  have h : a &&& d ≤ a := Nat.and_le_left
  have e4 : ∀ z : BitVec 64, z.toNat = a &&& d → IntKind.i64.wrap (z.toNat : Int) = ((a &&& d : Nat) : Int) := by
    intro z hz
    rw [hz]
    simp [IntKind.wrap, IntKind.signed, IntKind.bits]
    omega
  exact e4 _ e
theorem has_two : ∀ d : Nat, d < 8 → hasB (d : Int) 2 = decide (d / 2 % 2 = 1) := by decide +kernel
theorem and_set : ∀ a : Nat, a < 64 → ∀ b : Nat, b < 64 → ¬ ((64 * a + b) / 512 % 8 > 1) → (64 * a + b) &&& 3072 = 0 := by decide +kernel
theorem and_wr : ∀ a : Nat, a < 64 → ∀ b : Nat, b < 64 → ¬ ((64 * a + b) / 8 % 8 / 2 % 2 = 1) → ¬ ((64 * a + b) % 8 / 2 % 2 = 1) → (64 * a + b) &&& 18 = 0 := by decide +kernel
theorem chk_each : ∀ (es ahead : List En), (chkFrom ahead es).2 = 0 → ∀ i e, es[i]? = some e → refE e (ahead ++ es.take i) false = 0 := by
  intro es
  induction es with
  | nil => intro ahead _ i e h; simp at h
  | cons x xs ih =>
    intro ahead h i e he
    unfold chkFrom at h
    split at h
    · rename_i h0
      cases i with
      | zero =>
        simp only [List.getElem?_cons_zero, Option.some.injEq] at he
        subst he
        rw [List.take_zero, List.append_nil]
        exact h0
      | succ i =>
        have := ih (ahead ++ [x]) h i e (by simpa using he)
        rw [List.append_assoc] at this
        rw [List.take_succ_cons]
        exact this
    · rename_i h0
      exact absurd h h0
theorem risky_and {k m : Int} (h : riskyE k m = false) : bits .and .i64 m 3072 = 0 ∧ (k < 2 → bits .and .i64 m 18 = 0) := by
  unfold riskyE at h
  have h1 : refuse k m 0 0 = 0 := by simpa using h
  unfold refuse at h1
  split at h1
  · rename_i h2
    exact absurd h1 h2
  · rename_i h2
    have h3 : chk k m 0 0 = 0 := Decidable.not_not.1 h2
    have hm : 0 ≤ m ∧ m ≤ 4095 := by
      rcases Int.lt_or_le k 0 with hk | hk
      · rw [chk_type (Or.inl hk)] at h3
        exact absurd h3 (by decide)
      · rcases Int.lt_or_le 4 k with hk4 | hk4
        · rw [chk_type (Or.inr hk4)] at h3
          exact absurd h3 (by decide)
        · rcases Int.lt_or_le m 0 with hm | hm
          · rw [chk_mode hk hk4 (Or.inl hm)] at h3
            exact absurd h3 (by decide)
          · rcases Int.lt_or_le 4095 m with hm4 | hm4
            · rw [chk_mode hk hk4 (Or.inr hm4)] at h3
              exact absurd h3 (by decide)
            · exact ⟨hm, hm4⟩
    split at h1
    · cases h1
    · split at h1
      · cases h1
      · rename_i h4
        rw [Bool.or_eq_true, Bool.and_eq_true, not_or, decide_eq_true_eq] at h4
        obtain ⟨n, rfl⟩ := Int.eq_ofNat_of_zero_le hm.1
        obtain ⟨a, b, ha, hb, hab⟩ := split64 (m := n) (by omega)
        refine ⟨?_, fun hk => ?_⟩
        · rw [show (3072 : Int) = ((3072 : Nat) : Int) from rfl, and_nat64 n 3072 (by omega) (by omega), hab, and_set a ha b hb ?_]
          · rfl
          · intro hg
            apply h4.1
            unfold setB
            rw [decide_eq_true_eq, hab]
            omega
        · have h5 : ¬ wrB (n : Int) = true := fun hw => h4.2 ⟨hk, hw⟩
          rw [show (18 : Int) = ((18 : Nat) : Int) from rfl, and_nat64 n 18 (by omega) (by omega), hab]
          have h6 : ¬ ((64 * a + b) / 8 % 8 / 2 % 2 = 1) ∧ ¬ ((64 * a + b) % 8 / 2 % 2 = 1) := by
            unfold wrB at h5
            rw [hab, show ((64 * a + b : Nat) : Int) / 8 % 8 = (((64 * a + b) / 8 % 8 : Nat) : Int) by omega, show ((64 * a + b : Nat) : Int) / 1 % 8 = (((64 * a + b) % 8 : Nat) : Int) by omega, has_two _ (by omega), has_two _ (by omega)] at h5
            simp only [Bool.or_eq_true, decide_eq_true_eq, not_or] at h5
            exact h5
          rw [and_wr a ha b hb h6.1 h6.2]
          rfl
theorem reads_facts {e : En} {l : List En} {b : Bool} (h : refE e l b = 0) : 0 < e.path.length ∧ e.kind ≤ 2 ∧ bits .and .i64 e.mode 3072 = 0 ∧ (e.kind < 2 → bits .and .i64 e.mode 18 = 0) ∧ (e.kind = 2 → (leadB (e.path.take (e.path.length - 1)) (txtB e.data)).2 = 0) := by
  have h9 := ref_all h
  have h0 : pathlessE e.path = false := h9 0 (by omega)
  have h1 : kindlessE e.kind = false := h9 1 (by omega)
  have h2 : riskyE e.kind e.mode = false := h9 2 (by omega)
  have h5 : leadsE e.path e.kind e.data = false := h9 5 (by omega)
  have hp := (pathless_ok h).2
  have hr : rightB e.path = true := by
    rw [pathless_is, Bool.or_eq_false_iff, Bool.or_eq_false_iff] at h0
    simpa using h0.1.1
  refine ⟨hp, ?_, (risky_and h2).1, (risky_and h2).2, fun hk => ?_⟩
  · unfold kindlessE at h1
    simp only [Bool.not_eq_false', Bool.or_eq_true, decide_eq_true_eq] at h1
    omega
  · unfold leadsE at h5
    rw [hk] at h5
    simp only [decide_true, Bool.true_and, Bool.or_eq_false_iff, Bool.not_eq_false', decide_eq_true_eq] at h5
    have h6 := h5.1
    unfold homeP at h6
    rw [if_neg (by
      rintro (h7 | h7)
      · omega
      · rw [hr] at h7
        cases h7)] at h6
    exact h6
end Go.Proofs.YtlpljedacohngaaGreatDoor
end

/-
  ArchiveReads, walked: for every input the law returns true. Conditions: the variables and constants that are read hold what they must; the bytes lie in memory.
-/

section
set_option linter.unusedSimpArgs false
set_option linter.unusedVariables false
set_option maxRecDepth 100000
namespace Go.Proofs.YtlpljedacohngaaGreatDoor
open Go.RowKit

theorem one_more (i : Nat) : Value.int .i64 ((i : Int) + 1) = .int .i64 ((i + 1 : Nat) : Int) := by rw [Int.natCast_succ]
theorem one_less {i k : Nat} (h : i < k) : k - (intOf (.int .i64 ((i : Int) + 1))).toNat < k - (intOf (.int .i64 (i : Int))).toNat := by
  simp [intOf]
  omega
def tupV (z : Int) : Value → World → Prop := fun u _ => ∃ A n c, u = .tuple #[.slice A n c, .int .i64 z]
theorem tupV.st (z : Int) : StV (tupV z) := fun _ _ _ h _ => h
def anySl : Value → World → Prop := fun u _ => ∃ A n c, u = .slice A n c
theorem anySl.st : StV anySl := fun _ _ _ h _ => h
set_option maxHeartbeats 8000000 in
theorem reads12_walk (w : World) (hV : PV w) (hK : Roots Ks w) (A : Option Addr) (n c : Nat) (b0 : List B8) (h : DIn w A n c b0) :
    Calls Tryz.prog 3 #[.slice A n c] w fun e w' => e = .returned (.bool true) ∧ Below w.heap.size w w' := by
  have hcap := h.cap
  have hbig := h.big
  have a0 : (0 : Int) ≤ min (n : Int) 2000 := by omega
  have a1 : min (n : Int) 2000 ≤ (c : Int) := by omega
  have hd := h.take (k := (min (n : Int) 2000).toNat) (c' := c) (by omega) (by omega) (Nat.le_refl _)
  obtain ⟨b, hb⟩ : ∃ b, b = b0.take (min (n : Int) 2000).toNat := ⟨_, rfl⟩
  rw [← hb] at hd
  obtain ⟨m, hm⟩ : ∃ m, m = (min (n : Int) 2000).toNat := ⟨_, rfl⟩
  rw [← hm] at hd
  have hm2 : m ≤ 2000 := by omega
  have H0 := Lib.hid (And.intro hd (And.intro hV hK))
  have HM := Lib.hid hm
  clear h hV hK hb hd hm
  go_enter Tryz.func3, Tryz.ntmps3
  go_wp2_with fail
  rw [← HM.out]
  refine (decode12_any w H0.out.2.1 H0.out.2.2 A m c b H0.out.1).mono ?_
  rintro e w1 ⟨h1, hc1⟩
  obtain ⟨D, hD⟩ : ∃ D, D = decB b := ⟨_, rfl⟩
  have hok := fun (hz : (decB b).2.2 = 0) => dec_ok (b := b) hz
  rw [← hD] at hc1 hok
  obtain ⟨es, k, z⟩ := D
  have HD := Lib.hid hD
  have H1 := Lib.hid (And.intro h1 (H0.out.1.below h1))
  clear h1 hD
  dsimp only at hc1 hok
  rcases hc1 with ⟨rfl, A1, c1, xs, rfl, hI⟩ | ⟨hz, rfl⟩
  · obtain ⟨hk, hb, hch, h40⟩ := hok rfl
    rw [← hk] at hI hb hch h40 ⊢
    have HI := Lib.hid (And.intro hI (And.intro hb hch))
    clear hk hb hch hI hok
    go_wp2_with fail
    refine (make_tbl w1).mono ?_
    rintro e w2 ⟨rfl, h2⟩
    have H2 := Lib.hid (And.intro (H1.out.1.trans (h2.mono H1.out.1.size)) (And.intro (H1.out.2.below h2) h2))
    clear h2
    go_wp2_with fail
    refine (rdecode_any w2 A m c b H2.out.2.1 (by omega)).mono ?_
    rintro e w3 ⟨h3, hc3⟩
    rw [← HD.out] at hc3
    dsimp only at hc3
    have H3 := Lib.hid (And.intro (H2.out.1.trans (h3.mono H2.out.1.size)) (And.intro (H2.out.2.1.below h3) (H2.out.2.2.trans (h3.mono H2.out.2.2.size))))
    clear h3
    rcases hc3 with ⟨_, A3, c3, ys, rfl, hJ⟩ | ⟨hne, _⟩
    · have hel := HI.out.1.elen
      rw [hel] at hJ ⊢
      have HJ := Lib.hid hJ
      clear hJ hel
      go_wp2_with fail
      refine (of12_any w3 A1 k c1 xs es (HI.out.1.below H3.out.2.2) (by omega)).mono ?_
      rintro e w4 ⟨B4, d4, rfl, h4, hb4⟩
      have H4 := Lib.hid (And.intro h4 hb4)
      clear h4 hb4
      go_wp2_with fail
      refine (rsame12_any w4 B4 k d4 xs es H4.out.1 A3 k c3 ys es (HJ.out.below H4.out.2)).mono ?_
      rintro e w5 ⟨rfl, h5⟩
      rw [decide_eq_true (rfl : es = es)]
      have H5 := Lib.hid (H3.out.2.2.trans ((H4.out.2.trans (h5.mono H4.out.2.size)).mono H3.out.2.2.size))
      clear h5
      go_wp2_with fail
      go_loopw [9] (fun iv wr => ∃ i : Nat, i ≤ k ∧ iv = .int .i64 i ∧ Hid (Below w1.heap.size w1 wr)) (fun iv _ => k - (intOf iv).toNat)
      case atStart => exact ⟨0, by omega, rfl, H5⟩
      case round =>
        obtain ⟨i, hi, rfl, HW⟩ := hrel
        by_cases hlt : i < k
        · obtain ⟨g, o, x, en, rfl, hg, hx, he, hok, hcl⟩ := HI.out.1.row hlt
          have hfc := reads_facts (chk_each es [] (by have := HI.out.2.2; unfold chkE at this; rw [if_neg (by rw [HI.out.1.elen]; omega)] at this; rw [this]) i en he)
          have hpl := hok.path.len
          have hpc := hok.path.cap
          have hpb := hok.path.big
          have hcap1 := HI.out.1.cap
          have hbig1 := HI.out.1.big
          rw [hok.kind, hok.mode] at hfc
          have HOk := Lib.hid hok
          obtain ⟨PA, pn, pc, kd, md, DA, dn, dc⟩ := x
          dsimp only at hfc hpl hpc hpb
          obtain ⟨f0, f1, f2, f3, f4⟩ := hfc
          obtain ⟨q, rfl⟩ : ∃ q, pn = q + 1 := ⟨pn - 1, by omega⟩
          rw [hpl] at f4
          rw [show q + 1 - 1 = q by omega] at f4
          have q0 : wr.cell? ⟨g, o + i * 4, none⟩ = some (.slice PA (q + 1) pc) := pcell_below (hcl 0 _ rfl) HW.out
          have q1 : wr.cell? ⟨g, o + i * 4 + 1, none⟩ = some (.int .i64 kd) := pcell_below (hcl 1 _ rfl) HW.out
          have q2 : wr.cell? ⟨g, o + i * 4 + 2, none⟩ = some (.int .i64 md) := pcell_below (hcl 2 _ rfl) HW.out
          have q3 : wr.cell? ⟨g, o + i * 4 + 3, none⟩ = some (.slice DA dn dc) := pcell_below (hcl 3 _ rfl) HW.out
          have z0 : (0 : Int) ≤ (i : Int) := by omega
          have z1 : (i : Int) < (k : Int) := by omega
          have z2 : (((q + 1 : Nat) : Int) = 0) = False := eq_false (by omega)
          have z3 : decide (((q + 1 : Nat) : Int) = 0) = false := decide_eq_false (by omega)
          have z4 : ((2 : Int) < kd) = False := eq_false (by omega)
          have z5 : decide ((2 : Int) < kd) = false := decide_eq_false (by omega)
          have HPq : Hid (SIn w1 PA q pc (en.path.take q)) := Lib.hid (SIn.take HOk.out.path (show q ≤ q + 1 by omega) (show q ≤ pc by omega) (Nat.le_refl _))
          clear hcl hok hx he hpl f0 hg
          by_cases hk2 : kd = 2
          · subst hk2
            have HLd := Lib.hid (f4 rfl)
            clear f1 f3 f4 z4 z5
            go_wp2_with fail
            refine wp_hideQ ?_
            intro QQ hQQ
            refine wp_region_quick [some 106, some 107, some 108, some 109, some 110, some 111, some 112, some 113, some 114, some 115, some 116, some 117, some 105, some 118, some 119, some 11, some 12] [isV (.slice PA (q + 1) pc), isV (.slice PA (q + 1) pc), isV (.int .i64 ((q + 1 : Nat) : Int)), isV (.int .i64 (q : Int)), isV (.slice PA q pc), isV (.slice (some ⟨g, o, none⟩) k c1), isV (.int .i64 (i : Int)), isV (.pointer (some ⟨g, o + i * 4, none⟩)), isV (.pointer (some ⟨g, o + i * 4 + 3, none⟩)), isV (.slice DA dn dc), isV (.string (txtB en.data)), tupV 0, tupV 0, anySl, isV (.int .i64 0), anySl, isV (.int .i64 0)] 17 (by kernel_rfl) rfl rfl rfl (by kernel_rfl) (by simp [isV.st, tupV.st, anySl.st]) ?_ ?_
            · intro hq rz hz
              match rz, hz with
              | 0, _ =>
                refine StepL.val rfl [] (by decide +kernel) ?_
                intro v wx hR hd
                exact ⟨wanted_plain rfl _, _, _, x_move rfl (fill_off rfl rfl), hR, Below.refl _ _, rfl⟩
              | 1, _ =>
                refine StepL.val rfl [] (by decide +kernel) ?_
                intro v wx hR hd
                exact ⟨wanted_plain rfl _, _, _, x_move rfl (fill_off rfl rfl), hR, Below.refl _ _, rfl⟩
              | 2, _ =>
                refine StepL.val rfl [1] (by decide +kernel) ?_
                intro v wx hR hd
                have h1 : v 1 = _ := hd 1 (by simp)
                exact ⟨wanted_plain rfl _, _, _, x_len rfl rfl rfl rfl (by kernel_rfl) (hq.at_ rfl h1), hR, Below.refl _ _, rfl⟩
              | 3, _ =>
                refine StepL.val rfl [2] (by decide +kernel) ?_
                intro v wx hR hd
                have h2 : v 2 = _ := hd 2 (by simp)
                exact ⟨wanted_plain rfl _, _, _, x_bin rfl (hq.at_ rfl h2) rfl (r_sub (by omega) (by omega) (by omega)), hR, Below.refl _ _, rfl⟩
              | 4, _ =>
                refine StepL.val rfl [0, 3] (by decide +kernel) ?_
                intro v wx hR hd
                have h0 : v 0 = _ := hd 0 (by simp)
                have h3 : v 3 = _ := hd 3 (by simp)
                exact ⟨wanted_plain rfl _, _, _, x_sub_h rfl (by kernel_rfl) (hq.at_ rfl h0) (hq.at_ rfl h3) (by omega) (by omega), hR, Below.refl _ _, rfl⟩
              | 5, _ =>
                refine StepL.val rfl [] (by decide +kernel) ?_
                intro v wx hR hd
                exact ⟨wanted_plain rfl _, _, _, x_move rfl (fill_off rfl rfl), hR, Below.refl _ _, rfl⟩
              | 6, _ =>
                refine StepL.val rfl [] (by decide +kernel) ?_
                intro v wx hR hd
                exact ⟨wanted_plain rfl _, _, _, x_move rfl (fill_off rfl rfl), hR, Below.refl _ _, rfl⟩
              | 7, _ =>
                refine StepL.val rfl [5, 6] (by decide +kernel) ?_
                intro v wx hR hd
                have h5 : v 5 = _ := hd 5 (by simp)
                have h6 : v 6 = _ := hd 6 (by simp)
                exact ⟨wanted_plain rfl _, _, _, x_index rfl (hq.at_ rfl h5) (hq.at_ rfl h6) (r_index (e := 40) (size := 4) (by kernel_rfl) (by kernel_rfl) (by omega) (by omega) (by first | omega | simp)), hR, Below.refl _ _, rfl⟩
              | 8, _ =>
                refine StepL.val rfl [7] (by decide +kernel) ?_
                intro v wx hR hd
                have h7 : v 7 = _ := hd 7 (by simp)
                exact ⟨wanted_plain rfl _, _, _, x_field rfl (hq.at_ rfl h7) (r_field (off := 3) (by kernel_rfl)), hR, Below.refl _ _, rfl⟩
              | 9, _ =>
                refine StepL.val rfl [8] (by decide +kernel) ?_
                intro v wx hR hd
                have h8 : v 8 = _ := hd 8 (by simp)
                exact ⟨wanted_plain rfl _, _, _, x_load rfl (hq.at_ rfl h8) (r_load (by kernel_rfl) (pcell_below q3 hR)), hR, Below.refl _ _, rfl⟩
              | 10, _ =>
                refine StepL.val rfl [9] (by decide +kernel) ?_
                intro v wx hR hd
                have h9 : v 9 = _ := hd 9 (by simp)
                exact ⟨wanted_plain rfl _, _, _, x_conv rfl (hq.at_ rfl h9) (conv_txt ((HOk.out.data.below HW.out).below hR)), hR, Below.refl _ _, rfl⟩
              | 11, _ =>
                refine StepL.call rfl [4, 10] (by decide +kernel) ?_
                intro v wx hR hd
                have h4 : v 4 = _ := hd 4 (by simp)
                have h10 : v 10 = _ := hd 10 (by simp)
                refine ⟨wanted_plain rfl _, 10, _, _, x_call rfl rfl (args_2 (hq.at_ rfl h4) (hq.at_ rfl h10)) (by kernel_rfl) rfl, ?_⟩
                refine (rlead_any wx PA q pc (en.path.take q) (HPq.out.below (HW.out.trans (hR.mono HW.out.size))) (txtB en.data)).mono ?_
                rintro e5 w' ⟨A5, n5, c5, rfl, h5⟩
                rw [HLd.out]
                exact ⟨_, rfl, hR.trans (h5.mono hR.size), h5, A5, n5, c5, rfl⟩
              | 12, _ =>
                refine StepL.val rfl [11] (by decide +kernel) ?_
                intro v wx hR hd
                obtain ⟨A11, n11, c11, h11⟩ : (tupV 0) (v 11) wx := hd 11 (by simp)
                exact ⟨wanted_plain rfl _, _, _, x_move rfl (hq.at_ rfl h11), hR, Below.refl _ _, A11, n11, c11, rfl⟩
              | 13, _ =>
                refine StepL.val rfl [12] (by decide +kernel) ?_
                intro v wx hR hd
                obtain ⟨A12, n12, c12, h12⟩ : (tupV 0) (v 12) wx := hd 12 (by simp)
                exact ⟨wanted_plain rfl _, _, _, x_extract rfl (hq.at_ rfl h12) rfl, hR, Below.refl _ _, A12, n12, c12, rfl⟩
              | 14, _ =>
                refine StepL.val rfl [12] (by decide +kernel) ?_
                intro v wx hR hd
                obtain ⟨A12, n12, c12, h12⟩ : (tupV 0) (v 12) wx := hd 12 (by simp)
                exact ⟨wanted_plain rfl _, _, _, x_extract rfl (hq.at_ rfl h12) rfl, hR, Below.refl _ _, rfl⟩
              | 15, _ =>
                refine StepL.val rfl [13] (by decide +kernel) ?_
                intro v wx hR hd
                obtain ⟨A13, n13, c13, h13⟩ : (anySl) (v 13) wx := hd 13 (by simp)
                exact ⟨wanted_plain rfl _, _, _, x_assign rfl (hq.at_ rfl h13), hR, Below.refl _ _, A13, n13, c13, rfl⟩
              | 16, _ =>
                refine StepL.val rfl [14] (by decide +kernel) ?_
                intro v wx hR hd
                have h14 : v 14 = _ := hd 14 (by simp)
                exact ⟨wanted_plain rfl _, _, _, x_assign rfl (hq.at_ rfl h14), hR, Below.refl _ _, rfl⟩
              | rz + 17, h => omega
            · intro v wx hR hV
              obtain ⟨A15, n15, c15, h15⟩ : anySl (v 15) wx := hV 15 (by omega)
              have h16 : v 16 = _ := hV 16 (by omega)
              simp only [fillR, Act.put, List.setIfInBounds_toArray, List.set_cons_zero, List.set_cons_succ, h15, h16]
              have H15 := Lib.hid (HW.out.trans (hR.mono HW.out.size))
              clear hV hR h15 h16
              go_wp2_with fail
              exact ⟨⟨i + 1, hlt, one_more i, H15⟩, one_less hlt⟩
          · have u0 : kd < 2 := by omega
            have u1 : decide (kd < 2) = true := decide_eq_true u0
            have f3 := f3 u0
            have u2 : (kd = 2) = False := eq_false hk2
            have u3 : decide (kd = 2) = false := decide_eq_false hk2
            clear f4 hk2
            go_wp2_with fail
            exact ⟨⟨i + 1, hlt, one_more i, HW⟩, one_less hlt⟩
        · obtain rfl : i = k := by omega
          clear hlt hi
          go_wp2_with fail
          have hbw := H1.out.1.trans (HW.out.mono H1.out.1.size)
          have HB := Lib.hid (And.intro hbw (And.intro (H0.out.2.1.to hbw) (H0.out.2.2.below hbw H0.out.2.2.pos)))
          clear hbw
          refine (encode12_any wr HB.out.2.1 HB.out.2.2 A1 i c1 xs es (HI.out.1.below HW.out) (chk_texts (by rw [HI.out.2.2]))).mono ?_
          rintro e w6 ⟨h6, hc6⟩
          rw [← HI.out.2.1] at hc6
          rcases hc6 with ⟨_, B6, d6, rfl, hd6, _⟩ | ⟨hne, _⟩
          · obtain ⟨bl, hbl⟩ : ∃ bl, bl = b.length := ⟨_, rfl⟩
            rw [← hbl] at hd6 ⊢
            clear hbl
            have H6 := Lib.hid (And.intro hd6 (And.intro (HB.out.1.trans (h6.mono HB.out.1.size)) ((H0.out.1.below HB.out.1).below h6)))
            clear hd6 h6
            go_wp2_with fail
            refine (known12_any w6 (H0.out.2.1.to H6.out.2.1)).mono ?_
            rintro e w7 ⟨rfl, h7⟩
            have H7 := Lib.hid (And.intro (H6.out.1.below h7) (And.intro (H6.out.2.2.below h7) (H6.out.2.1.trans (h7.mono H6.out.2.1.size))))
            clear h7
            go_wp2_with fail
            refine (rsame_din H7.out.1 H7.out.2.1).mono ?_
            rintro e w8 ⟨rfl, h8⟩
            rw [decide_eq_true (rfl : b = b)]
            have H8 := Lib.hid (H7.out.2.2.trans (h8.mono H7.out.2.2.size))
            clear h8
            go_wp2_with fail
            go_ret
            exact ⟨rfl, H8.out⟩
          · exact absurd (by rw [HI.out.2.2]) hne
    · exact absurd rfl hne
  · have HZ := Lib.hid hz
    clear hok
    have u0 : (z = 0) = False := eq_false hz
    have u1 : (z != 0) = true := by simp [hz]
    clear hz
    go_wp2_with fail
    refine (make_tbl w1).mono ?_
    rintro e w2 ⟨rfl, h2⟩
    have H2 := Lib.hid (And.intro (H1.out.1.trans (h2.mono H1.out.1.size)) (H1.out.2.below h2))
    clear h2
    go_wp2_with fail
    refine (rdecode_any w2 A m c b H2.out.2 (by omega)).mono ?_
    rintro e w3 ⟨h3, hc3⟩
    rw [← HD.out] at hc3
    dsimp only at hc3
    have H3 := Lib.hid (H2.out.1.trans (h3.mono H2.out.1.size))
    clear h3
    rcases hc3 with ⟨hz0, _⟩ | ⟨_, rfl⟩
    · exact absurd hz0 HZ.out
    · go_wp2_with fail
      refine (of12_any w3 none 0 0 [] [] (EIn.none _) (by omega)).mono ?_
      rintro e w4 ⟨B4, d4, rfl, h4, hb4⟩
      have H4 := Lib.hid (And.intro h4 (H3.out.trans (hb4.mono H3.out.size)))
      clear h4 hb4
      go_wp2_with fail
      refine (rsame12_any w4 B4 0 d4 [] [] H4.out.1 none 0 0 [] [] (EIn.none _)).mono ?_
      rintro e w5 ⟨rfl, h5⟩
      rw [decide_eq_true (rfl : ([] : List En) = [])]
      have H5 := Lib.hid (H4.out.2.trans (h5.mono H4.out.2.size))
      clear h5
      go_wp2_with fail
      refine (known12_any w5 (H0.out.2.1.to H5.out)).mono ?_
      rintro e w6 ⟨rfl, h6⟩
      have H6 := Lib.hid (H5.out.trans (h6.mono H5.out.size))
      clear h6
      go_wp2_with fail
      go_ret
      exact ⟨rfl, H6.out⟩
end Go.Proofs.YtlpljedacohngaaGreatDoor
end

/-
  ArchiveReads: for every input the law returns true, and the arguments read as they read: its card, tied to the program's text. Condition: the listed variables read as their initialisers lay them.
-/

section
set_option linter.unusedSimpArgs false
set_option linter.unusedVariables false
set_option maxRecDepth 100000
namespace Go.Proofs.YtlpljedacohngaaGreatDoor.archiveReads
open Go.ChangeShapes Go.WideShapes Go.ChangeAt Go.RowKit

set_option maxRecDepth 100000 in
theorem contract (H : Type) (enc : TypeId × Value → H) (W : World) (base : Nat) (args : Array Value) (ds gs : List (DataW H)) (before : List MemPlace)
    (hval : ∀ (j : Nat) t v, Tryz.f3.params[j]? = some t → args[j]? = some v → Value.okWide Tryz.prog W .any base t v)
    (hW : DataW.Whole enc Tryz.prog Tryz.f3.params.toList Rows.archiveReadsSpec.vars false W args.toList ds gs before) (hL : laidMetH Tryz.prog Rows.archiveReadsRow.laid W) (hSh : W.ShapedOpen Tryz.prog) :
    Calls Tryz.prog 3 args W fun e W' => ∃ v, e = .returned v ∧ Rows.archiveReadsSpec.post enc Tryz.prog Tryz.f3 false true false false W args v W' := by
  have hW' := hW
  obtain ⟨p, q, hA0, hV, rfl, hfz, hnd⟩ := hW
  have hA : DataW.TrodAll enc Tryz.prog W 0 (fun _ => true) true Tryz.f3.params.toList args.toList ds p := hA0
  rw [Tryz.params3] at hA hval
  obtain ⟨v0, vs0, d0, ds0, p0, q0, hargs, rfl, rfl, h0, r0⟩ := trodAll_cons hA
  obtain ⟨rfl, rfl, rfl⟩ := trodAll_nil r0
  obtain rfl : args = #[v0] := by cases args; simp_all
  obtain ⟨rfl, rfl⟩ := trodVars_none hV
  have k0 := h0
  have lt0 : ∀ x ∈ p0, x.block < W.heap.size := by obtain ⟨m, hm⟩ := k0; exact DataW.trod_lt m _ _ _ hm
  clear hA0
  obtain ⟨a0, len0, cap0, rfl⟩ := okWide_slice Tryz.underlying22 (hval 0 22 v0 rfl rfl)
  obtain ⟨A0, n0, c0, b0, e0, hb0⟩ : ∃ A n c b, Value.slice a0 len0 cap0 = .slice A n c ∧ DIn W A n c b := by
    obtain ⟨fuel, hf⟩ := h0
    obtain ⟨A, n, c, b, e, hb⟩ := came_text (by simpa [Value.cells] using hf)
    exact ⟨A, n, c, b, e, din_txt hb⟩
  cases e0
  refine (reads12_walk W (pv_from (show laidMet Tryz.prog Rows.archiveReadsRow.laid W from hL) (List.mem_of_getElem? (i := 2) rfl) hSh) (roots_head (show laidMet Tryz.prog Rows.archiveReadsRow.laid W from hL)) _ _ _ _ hb0).mono fun e W' ⟨he, bel⟩ => ?_
  subst he
  exact ⟨_, rfl, _, _, _, [], _, [], hW', trodAll_mk1 (shut_bool Tryz.underlying4 _), (trodAll_cons_mk (Below.trod laidOut (by kernel_rfl) (of_decide_eq_true (by kernel_rfl)) k0 bel lt0) trodAll_mk0), rfl, bel.frame _, fun h => by cases h⟩

theorem laid_met (os : Os) : laidMet Tryz.prog Rows.archiveReadsRow.laid ((laidWorld os).forCall (fun _ _ => 0) ⟨#[], #[.slice none 0 0], []⟩).memory :=
  laidMet_of_run' 8 (by kernel_rfl) (by kernel_rfl)
theorem reads (os : Os) {H : Type} (enc : TypeId × Value → H) : ∃ places, DataW.whole enc Tryz.prog ((laidWorld os).forCall (fun _ _ => 0) ⟨#[], #[.slice none 0 0], []⟩).memory Tryz.f3.params.toList Rows.archiveReadsSpec.vars false (#[.slice none 0 0] : Array Value).toList 8 = some ([.nil], [], places) :=
  ⟨[], by kernel_rfl⟩

set_option maxRecDepth 100000 in
theorem lifted (os : Os) (started : os.Started) (H : Type) (enc : TypeId × Value → H) (F : Stop.Interp) :
    ReturnsInHanded {} Tryz.checked os 3 .any ((OpenSpec.ofChange Rows.archiveReadsSpec).preRow enc Tryz.prog Tryz.f3 Rows.archiveReadsRow.domain false Rows.archiveReadsRow.laid) (((OpenSpec.ofChange Rows.archiveReadsSpec).at F).post enc Tryz.prog Tryz.f3 false true false false) := by
  obtain ⟨places, hx⟩ := reads os enc
  refine returnsInHanded_of_row (C := Tryz.checked) (s := OpenSpec.ofChange Rows.archiveReadsSpec) own started (by kernel_rfl) Tryz.func3
    (witness_row_at (enc := enc) (C := Tryz.checked) false (laidWorld os) #[.slice none 0 0] rfl (by kernel_rfl) (by kernel_rfl) (by kernel_rfl)
      (OpenSpec.preRow_of_cond 8 hx (by kernel_rfl) (fun k hk => by cases hk) (by kernel_rfl) (laid_met os))) ?_
  intro W base args ds gs before hval hW _ _ _ hL hSh _
  exact contract H enc W base args ds gs before hval hW hL hSh

theorem said : Rows.ArchiveReadsSaid :=
  OpenClaim.holds_of_cond 3 Tryz.f3 rfl rfl rfl rfl rfl rfl rfl ⟨rfl, rfl, rfl, rfl, rfl⟩ rfl rfl rfl rfl rfl (by kernel_rfl) Tryz.func3 (by kernel_rfl)
    (of_decide_eq_true (by kernel_rfl)) (by unfold Func.isWrapper; first | (rw [if_pos (by decide +kernel)]; kernel_rfl) | (rw [if_neg (by decide +kernel)]; exact ⟨rfl, rfl⟩))
    (fun os started H enc _ F => by rw [OpenClaim.pre_eq_preRow]; exact lifted os started H enc F)

theorem plain (f : FuncId) (fn : Func) (hf : Tryz.pinned.checked.prog.funcNamed "creel/creellaw12.ArchiveReads" = some f) (hfn : Tryz.pinned.checked.prog.funcs[f]? = some fn) :
    false = Tryz.pinned.checked.prog.looks [] ∧ ∀ (j : Nat) t, fn.params[j]? = some t → Tryz.pinned.checked.prog.wantsStandIn t = false := by
  obtain rfl : f = 3 := Option.some.inj ((show Tryz.prog.funcNamed "creel/creellaw12.ArchiveReads" = some 3 by kernel_rfl).symm.trans hf) |>.symm
  obtain rfl : fn = Tryz.f3 := (Option.some.inj (Tryz.func3.symm.trans hfn)).symm
  refine ⟨by kernel_rfl, fun j t ht => ?_⟩
  rw [Tryz.params3] at ht
  have hm : t ∈ [22] := by simpa using Array.mem_of_getElem? ht
  have hall : ([22].all fun u => !Tryz.prog.wantsStandIn u) = true := by kernel_rfl
  exact (show Tryz.prog.wantsStandIn t = false by simpa using List.all_eq_true.1 hall t hm)

end Go.Proofs.YtlpljedacohngaaGreatDoor.archiveReads
namespace Go.Proofs.YtlpljedacohngaaGreatDoor
theorem ArchiveReads_holds : Rows.ArchiveReadsCardSaid :=
  Claim7.holds_tied_plain_at .later [] _ _ _ _ archiveReads.said (fun _ h => by cases h) (by kernel_rfl) (fun _ h => by cases h) archiveReads_row_tie rfl ⟨rfl, rfl⟩ (by kernel_rfl) rfl archiveReads.plain (by kernel_rfl)
end Go.Proofs.YtlpljedacohngaaGreatDoor
end
