/-
  ModeCuts, walked: for every number and every list it returns true. Conditions: the list lies in memory; one cell of the library's table is as its initialiser lays it.
-/
import Derived.Test.YtobklbangjjocaaDoorMKnown
import Derived.Test.YtobklbangjjocaaDoorMRefuse
set_option linter.unusedSimpArgs false
set_option linter.unusedVariables false
set_option maxRecDepth 100000
namespace Go.Proofs.YtobklbangjjocaaDoor
open Go.RowKit

theorem cut_safe : ∀ a : Nat, a < 64 → ∀ b : Nat, b < 64 → ¬ ((((64 * a + b) &&& (18446744073709551615 - 3072)) &&& (18446744073709551615 - 18)) / 512 % 8 > 1) ∧ ¬ ((((64 * a + b) &&& (18446744073709551615 - 3072)) &&& (18446744073709551615 - 18)) / 8 % 8 / 2 % 2 = 1) ∧ ¬ ((((64 * a + b) &&& (18446744073709551615 - 3072)) &&& (18446744073709551615 - 18)) % 8 / 2 % 2 = 1) := by decide +kernel
theorem safe_cut {m : Int} (h0 : 0 ≤ m) (h1 : m ≤ 4095) : decide (refuse 0 (cutL m [3072, 18]) 0 0 = 0) = true := by
  obtain ⟨n, rfl⟩ := Int.eq_ofNat_of_zero_le h0
  obtain ⟨a, b, ha, hb, rfl⟩ := split64 (m := n) (by omega)
  have h := cut_safe a ha b hb
  have hbd := cutL_bd ((64 * a + b : Nat) : Int) [3072, 18]
  have e1 : cutL ((64 * a + b : Nat) : Int) [3072, 18] = (((64 * a + b) &&& (18446744073709551615 - 3072)) &&& (18446744073709551615 - 18) : Nat) := by
    unfold cutL
    rw [if_pos ⟨h0, h1⟩]
    simp only [List.foldl]
    rw [show (3072 : Int) = ((3072 : Nat) : Int) from rfl, show (18 : Int) = ((18 : Nat) : Int) from rfl]
    rw [cut_step (by omega) (by omega), cut_step (cut_le (by omega)) (by omega)]
  rw [e1] at hbd ⊢
  generalize ((64 * a + b) &&& (18446744073709551615 - 3072)) &&& (18446744073709551615 - 18) = c at h hbd ⊢
  have hc : chk 0 (c : Int) 0 0 = 0 := chk_ok (by omega) (by omega) hbd.1 hbd.2 (by omega) (by omega) (by omega) (by omega)
  have hw := (wr_nat c).2 ⟨h.2.1, h.2.2⟩
  have hs : setB (c : Int) = false := by
    unfold setB
    rw [decide_eq_false_iff_not]
    have := h.1
    omega
  unfold refuse
  rw [if_neg (by omega), if_neg (by omega), hs, hw]
  rfl

/-- Is one of the bits told? -/
def anyB (B : Int) (l : List Int) : Bool := l.any fun d => !decide (bits .and .i64 d B = 0)
theorem anyB_snoc {B x : Int} {l : List Int} {i : Nat} (hx : l[i]? = some x) : anyB B (l.take (i + 1)) = (anyB B (l.take i) || !decide (bits .and .i64 x B = 0)) := by
  unfold anyB
  rw [List.take_add_one, hx, List.any_append]
  simp
theorem cut_anyB {m B : Int} {k : Nat} (h0 : 0 ≤ m) (h1 : m ≤ 4095) (ds : List Int) (hk : k < 63) (hB : B = ((2 ^ k : Nat) : Int)) :
    (!decide (bits .and .i64 (cutL m ds) B = 0)) = ((!decide (bits .and .i64 m B = 0)) && !anyB B ds) := by
  have := cut_bit h0 h1 ds k hk
  unfold bitB at this
  rw [← hB] at this
  exact this
/-- Where the law's loop over the bits stands. -/
def BitAt (v : Value) : Prop := ∃ (B : Int) (k : Nat), v = .int .i64 B ∧ k ≤ 12 ∧ B = ((2 ^ k : Nat) : Int)
/-- Where the law's loop over the list stands. -/
def GoneAt (B : Int) (ds : List Int) (gv iv : Value) : Prop := ∃ (i : Nat) (b : Bool), i ≤ ds.length ∧ iv = .int .i64 i ∧ gv = .bool b ∧ b = anyB B (ds.take i)

set_option maxRecDepth 100000 in
set_option maxHeartbeats 4000000 in
theorem cuts_small (w : World) (hz : Tz w) (n : Int) (A : Option Addr) (len c : Nat) (ps : List Int) (hp : NIn w A len c ps) (h10 : len ≤ 10) : Calls Tryd.prog 6 #[.int .i64 n, .slice A len c] w fun e w' => e = .returned (.bool true) ∧ Below w.heap.size w w' := by
  have HZ := Lib.hid hz
  have hcap := hp.cap
  obtain ⟨ds, hd⟩ : ∃ ds, NIn w A len c ds := ⟨_, hp.take len (by omega)⟩
  have HD := Lib.hid hd
  have HL := Lib.hid hd.len
  clear hd
  clear hz hp
  go_enter Tryd.func6, Tryd.ntmps6
  go_wp2_with fail
  clear hcap
  with_reducible refine (cut_any _ n _ _ _ ds HD.out).mono ?_
  rintro e w' ⟨rfl, rfl⟩
  by_cases hn : 0 ≤ n ∧ n ≤ 4095
  · obtain ⟨n0, n1⟩ := hn
    have hbd := cutL_bd n ds
    obtain ⟨r, hr⟩ : ∃ r, r = cutL n ds := ⟨_, rfl⟩
    rw [← hr] at hbd ⊢
    obtain ⟨r0, r1⟩ := hbd
    have HR := Lib.hid hr
    clear hr
    go_wp2_with fail
    go_loop [6] (fun v => BitAt v) (fun v => 4096 - (intOf v).toNat)
    case atStart => exact ⟨1, 0, rfl, by omega, rfl⟩
    case round =>
      obtain ⟨B, k, rfl, hk, hB⟩ := hrel
      by_cases hlt : B < 4096
      · have hk11 : k ≤ 11 := by
          rcases Nat.lt_or_ge k 12 with h | h
          · omega
          · obtain rfl : k = 12 := by omega
            omega
        have hB0 : 1 ≤ B := by rw [hB]; have := Nat.two_pow_pos k; omega
        have HB := Lib.hid (And.intro hB hk11)
        clear hB hk hk11
        go_wp2_with fail
        go_loop [7, 8] (fun gv iv => GoneAt B ds gv iv) (fun _ iv => len - (intOf iv).toNat)
        case atStart => exact ⟨0, false, Nat.zero_le _, rfl, rfl, rfl⟩
        case round =>
          obtain ⟨i, b, hi, rfl, rfl, hb⟩ := hrel
          by_cases hil : i < len
          · obtain ⟨g, o, rfl, hg, hcl⟩ := HD.out.cells (by omega)
            obtain ⟨x, hx⟩ : ∃ x, ds[i]? = some x := ⟨_, List.getElem?_eq_getElem (by have := HL.out; omega)⟩
            have hcell := hcl i x hx
            have hs := anyB_snoc (B := B) hx
            rw [← hb] at hs
            have HK := Lib.hid (And.intro (show i + 1 ≤ ds.length by have := HL.out; omega) hs)
            clear hcl hx hi hb hs
            cases b with
            | true =>
              go_wp2_with fail
              go_round
              case rel => exact ⟨i + 1, true, HK.out.1, by go_num, rfl, HK.out.2.symm⟩
              case measure => simp [intOf]; omega
            | false =>
              by_cases hx0 : bits .and .i64 x B = 0
              · have HX := Lib.hid hx0
                go_wp2_with fail
                go_round
                case rel => exact ⟨i + 1, false, HK.out.1, by go_num, rfl, by rw [HK.out.2, HX.out]; rfl⟩
                case measure => simp [intOf]; omega
              · have HX := Lib.hid hx0
                obtain ⟨q1, q2, q3⟩ := eqB_false hx0
                clear hx0
                go_wp2_with fail
                go_round
                case rel => exact ⟨i + 1, true, HK.out.1, by go_num, rfl, by rw [HK.out.2, decide_eq_false HX.out]; rfl⟩
                case measure => simp [intOf]; omega
          · have hb' : b = anyB B ds := by rw [hb, List.take_of_length_le (by have := HL.out; omega)]
            have hcu := cut_anyB (m := n) (B := B) (k := k) n0 n1 ds (by have := HB.out.2; omega) HB.out.1
            rw [← hb', ← HR.out] at hcu
            clear hi hb hb'
            obtain ⟨pm, hpm⟩ : ∃ pm, pm = bits .and .i64 r B := ⟨_, rfl⟩
            obtain ⟨pn, hpn⟩ : ∃ pn, pn = bits .and .i64 n B := ⟨_, rfl⟩
            rw [← hpm, ← hpn] at hcu
            have h2 : (2 : Int) * B ≤ 4096 := by
              have h1 := HB.out.1
              have h2 := HB.out.2
              have h3 : 2 ^ k ≤ 2 ^ 11 := Nat.pow_le_pow_right (by omega) h2
              omega
            have HNX : Hid (BitAt (.int .i64 (2 * B))) := Lib.hid ⟨2 * B, k + 1, rfl, by have := HB.out.2; omega, by have := HB.out.1; rw [Nat.pow_succ]; omega⟩
            by_cases c1 : pm = 0
            · have d1 := hpm.symm.trans c1
              have D1 := Lib.hid d1
              clear d1
              by_cases c2 : pn = 0
              · have D2 := Lib.hid (hpn.symm.trans c2)
                have d1 := D1.out
                have d2 := D2.out
                clear hcu hpm hpn c1 c2
                cases b
                all_goals
                  go_wp2_with fail
                  go_round
                  case rel => exact HNX.out
                  case measure => simp [intOf]; omega
              · have hbt : b = true := by
                  cases b with
                  | false => simp [c1, c2] at hcu
                  | true => rfl
                have d2 : ¬ bits .and .i64 n B = 0 := by rw [← hpn]; exact c2
                obtain ⟨q1, q2, q3⟩ := eqB_false d2
                have d1 := D1.out
                subst hbt
                clear hcu hpm hpn c1 c2 d2
                go_wp2_with fail
                go_round
                case rel => exact HNX.out
                case measure => simp [intOf]; omega
            · have d1 : ¬ bits .and .i64 r B = 0 := by rw [← hpm]; exact c1
              have hbf : b = false ∧ ¬ pn = 0 := by cases b <;> simp [c1] at hcu ⊢; exact hcu
              have d2 : ¬ bits .and .i64 n B = 0 := by rw [← hpn]; exact hbf.2
              obtain ⟨q1, q2, q3⟩ := eqB_false d1
              obtain ⟨q4, q5, q6⟩ := eqB_false d2
              obtain rfl := hbf.1
              clear hcu hpm hpn c1 d1 d2 hbf
              go_wp2_with fail
              go_round
              case rel => exact HNX.out
              case measure => simp [intOf]; omega
      · clear hk hB
        go_wp2_with fail
        with_reducible refine (mknown_walk _ HZ.out).mono ?_
        rintro e w1 ⟨rfl, h1⟩
        have H1 := Lib.hid h1
        clear h1
        go_wp2_with fail
        refine (cut_any _ n _ 2 2 [3072, 18] (NIn.two _ _ 3072 18 (by omega) (by omega) (by omega) (by omega))).mono ?_
        rintro e w2 ⟨rfl, rfl⟩
        go_wp2_with fail
        with_reducible refine (safe_any _ _ _ _ _).mono ?_
        rintro e w3 ⟨rfl, h3⟩
        have H3 := Lib.hid (mthen H1.out (mthen (mnew _ _) h3))
        clear h3
        rw [safe_cut n0 n1]
        go_wp2_with fail
        go_ret
        exact ⟨rfl, H3.out⟩
  · have e : cutL n ds = 0 := by unfold cutL; rw [if_neg hn]
    rw [e]
    clear e
    by_cases n0 : n < 0
    · clear hn
      go_wp2_with fail
      with_reducible refine (mknown_walk _ HZ.out).mono ?_
      rintro e w1 ⟨rfl, h1⟩
      have H1 := Lib.hid h1
      clear h1
      go_wp2_with fail
      go_ret
      exact ⟨rfl, H1.out⟩
    · have n1 : 4095 < n := by omega
      clear hn
      go_wp2_with fail
      with_reducible refine (mknown_walk _ HZ.out).mono ?_
      rintro e w1 ⟨rfl, h1⟩
      have H1 := Lib.hid h1
      clear h1
      go_wp2_with fail
      go_ret
      exact ⟨rfl, H1.out⟩
set_option maxRecDepth 100000 in
set_option maxHeartbeats 4000000 in
theorem cuts_big (w : World) (hz : Tz w) (n : Int) (A : Option Addr) (len c : Nat) (ps : List Int) (hp : NIn w A len c ps) (h10 : 10 < len) : Calls Tryd.prog 6 #[.int .i64 n, .slice A len c] w fun e w' => e = .returned (.bool true) ∧ Below w.heap.size w w' := by
  have HZ := Lib.hid hz
  have hcap := hp.cap
  obtain ⟨ds, hd⟩ : ∃ ds, NIn w A 10 c ds := ⟨_, hp.take 10 (by omega)⟩
  have HD := Lib.hid hd
  have HL := Lib.hid hd.len
  clear hd
  clear hz hp
  go_enter Tryd.func6, Tryd.ntmps6
  go_wp2_with fail
  clear hcap h10
  with_reducible refine (cut_any _ n _ _ _ ds HD.out).mono ?_
  rintro e w' ⟨rfl, rfl⟩
  by_cases hn : 0 ≤ n ∧ n ≤ 4095
  · obtain ⟨n0, n1⟩ := hn
    have hbd := cutL_bd n ds
    obtain ⟨r, hr⟩ : ∃ r, r = cutL n ds := ⟨_, rfl⟩
    rw [← hr] at hbd ⊢
    obtain ⟨r0, r1⟩ := hbd
    have HR := Lib.hid hr
    clear hr
    go_wp2_with fail
    go_loop [6] (fun v => BitAt v) (fun v => 4096 - (intOf v).toNat)
    case atStart => exact ⟨1, 0, rfl, by omega, rfl⟩
    case round =>
      obtain ⟨B, k, rfl, hk, hB⟩ := hrel
      by_cases hlt : B < 4096
      · have hk11 : k ≤ 11 := by
          rcases Nat.lt_or_ge k 12 with h | h
          · omega
          · obtain rfl : k = 12 := by omega
            omega
        have hB0 : 1 ≤ B := by rw [hB]; have := Nat.two_pow_pos k; omega
        have HB := Lib.hid (And.intro hB hk11)
        clear hB hk hk11
        go_wp2_with fail
        go_loop [7, 8] (fun gv iv => GoneAt B ds gv iv) (fun _ iv => 10 - (intOf iv).toNat)
        case atStart => exact ⟨0, false, Nat.zero_le _, rfl, rfl, rfl⟩
        case round =>
          obtain ⟨i, b, hi, rfl, rfl, hb⟩ := hrel
          by_cases hil : i < 10
          · obtain ⟨g, o, rfl, hg, hcl⟩ := HD.out.cells (by omega)
            obtain ⟨x, hx⟩ : ∃ x, ds[i]? = some x := ⟨_, List.getElem?_eq_getElem (by have := HL.out; omega)⟩
            have hcell := hcl i x hx
            have hs := anyB_snoc (B := B) hx
            rw [← hb] at hs
            have HK := Lib.hid (And.intro (show i + 1 ≤ ds.length by have := HL.out; omega) hs)
            clear hcl hx hi hb hs
            cases b with
            | true =>
              go_wp2_with fail
              go_round
              case rel => exact ⟨i + 1, true, HK.out.1, by go_num, rfl, HK.out.2.symm⟩
              case measure => simp [intOf]; omega
            | false =>
              by_cases hx0 : bits .and .i64 x B = 0
              · have HX := Lib.hid hx0
                go_wp2_with fail
                go_round
                case rel => exact ⟨i + 1, false, HK.out.1, by go_num, rfl, by rw [HK.out.2, HX.out]; rfl⟩
                case measure => simp [intOf]; omega
              · have HX := Lib.hid hx0
                obtain ⟨q1, q2, q3⟩ := eqB_false hx0
                clear hx0
                go_wp2_with fail
                go_round
                case rel => exact ⟨i + 1, true, HK.out.1, by go_num, rfl, by rw [HK.out.2, decide_eq_false HX.out]; rfl⟩
                case measure => simp [intOf]; omega
          · have hb' : b = anyB B ds := by rw [hb, List.take_of_length_le (by have := HL.out; omega)]
            have hcu := cut_anyB (m := n) (B := B) (k := k) n0 n1 ds (by have := HB.out.2; omega) HB.out.1
            rw [← hb', ← HR.out] at hcu
            clear hi hb hb'
            obtain ⟨pm, hpm⟩ : ∃ pm, pm = bits .and .i64 r B := ⟨_, rfl⟩
            obtain ⟨pn, hpn⟩ : ∃ pn, pn = bits .and .i64 n B := ⟨_, rfl⟩
            rw [← hpm, ← hpn] at hcu
            have h2 : (2 : Int) * B ≤ 4096 := by
              have h1 := HB.out.1
              have h2 := HB.out.2
              have h3 : 2 ^ k ≤ 2 ^ 11 := Nat.pow_le_pow_right (by omega) h2
              omega
            have HNX : Hid (BitAt (.int .i64 (2 * B))) := Lib.hid ⟨2 * B, k + 1, rfl, by have := HB.out.2; omega, by have := HB.out.1; rw [Nat.pow_succ]; omega⟩
            by_cases c1 : pm = 0
            · have d1 := hpm.symm.trans c1
              have D1 := Lib.hid d1
              clear d1
              by_cases c2 : pn = 0
              · have D2 := Lib.hid (hpn.symm.trans c2)
                have d1 := D1.out
                have d2 := D2.out
                clear hcu hpm hpn c1 c2
                cases b
                all_goals
                  go_wp2_with fail
                  go_round
                  case rel => exact HNX.out
                  case measure => simp [intOf]; omega
              · have hbt : b = true := by
                  cases b with
                  | false => simp [c1, c2] at hcu
                  | true => rfl
                have d2 : ¬ bits .and .i64 n B = 0 := by rw [← hpn]; exact c2
                obtain ⟨q1, q2, q3⟩ := eqB_false d2
                have d1 := D1.out
                subst hbt
                clear hcu hpm hpn c1 c2 d2
                go_wp2_with fail
                go_round
                case rel => exact HNX.out
                case measure => simp [intOf]; omega
            · have d1 : ¬ bits .and .i64 r B = 0 := by rw [← hpm]; exact c1
              have hbf : b = false ∧ ¬ pn = 0 := by cases b <;> simp [c1] at hcu ⊢; exact hcu
              have d2 : ¬ bits .and .i64 n B = 0 := by rw [← hpn]; exact hbf.2
              obtain ⟨q1, q2, q3⟩ := eqB_false d1
              obtain ⟨q4, q5, q6⟩ := eqB_false d2
              obtain rfl := hbf.1
              clear hcu hpm hpn c1 d1 d2 hbf
              go_wp2_with fail
              go_round
              case rel => exact HNX.out
              case measure => simp [intOf]; omega
      · clear hk hB
        go_wp2_with fail
        with_reducible refine (mknown_walk _ HZ.out).mono ?_
        rintro e w1 ⟨rfl, h1⟩
        have H1 := Lib.hid h1
        clear h1
        go_wp2_with fail
        refine (cut_any _ n _ 2 2 [3072, 18] (NIn.two _ _ 3072 18 (by omega) (by omega) (by omega) (by omega))).mono ?_
        rintro e w2 ⟨rfl, rfl⟩
        go_wp2_with fail
        with_reducible refine (safe_any _ _ _ _ _).mono ?_
        rintro e w3 ⟨rfl, h3⟩
        have H3 := Lib.hid (mthen H1.out (mthen (mnew _ _) h3))
        clear h3
        rw [safe_cut n0 n1]
        go_wp2_with fail
        go_ret
        exact ⟨rfl, H3.out⟩
  · have e : cutL n ds = 0 := by unfold cutL; rw [if_neg hn]
    rw [e]
    clear e
    by_cases n0 : n < 0
    · clear hn
      go_wp2_with fail
      with_reducible refine (mknown_walk _ HZ.out).mono ?_
      rintro e w1 ⟨rfl, h1⟩
      have H1 := Lib.hid h1
      clear h1
      go_wp2_with fail
      go_ret
      exact ⟨rfl, H1.out⟩
    · have n1 : 4095 < n := by omega
      clear hn
      go_wp2_with fail
      with_reducible refine (mknown_walk _ HZ.out).mono ?_
      rintro e w1 ⟨rfl, h1⟩
      have H1 := Lib.hid h1
      clear h1
      go_wp2_with fail
      go_ret
      exact ⟨rfl, H1.out⟩
theorem cuts_walk (w : World) (hz : Tz w) (n : Int) (A : Option Addr) (len c : Nat) (ps : List Int) (hp : NIn w A len c ps) : Calls Tryd.prog 6 #[.int .i64 n, .slice A len c] w fun e w' => e = .returned (.bool true) ∧ Below w.heap.size w w' := by
  rcases Nat.lt_or_ge 10 len with h | h
  · exact cuts_big w hz n A len c ps hp h
  · exact cuts_small w hz n A len c ps hp h
end Go.Proofs.YtobklbangjjocaaDoor
