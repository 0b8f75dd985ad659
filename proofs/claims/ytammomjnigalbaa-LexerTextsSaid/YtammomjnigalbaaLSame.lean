/-
  Whether two lists of tokens are the same, the lines aside; the texts of tokens: walked. Conditions: the tokens lie in memory.
-/
import Derived.Test.YtammomjnigalbaaLText
set_option linter.unusedSimpArgs false
set_option linter.unusedVariables false
set_option maxRecDepth 100000
namespace Go.Proofs.Ytammomjnigalbaa
open Go.RowKit

def ktL (x : Tk) : Nat × By := (x.kind, x.text)
def sameT (x y : Tk) : Bool := decide (x.kind = y.kind) && decide (x.text = y.text)
theorem sameT_iff (x y : Tk) : sameT x y = true ↔ ktL x = ktL y := by
  unfold sameT ktL
  simp [Prod.ext_iff]
theorem str_eqL (x y : By) : ((baL x).toList == (baL y).toList) = decide (x = y) := by
  rw [toList_bs, toList_bs, bs_ba, bs_ba]
  by_cases h : x = y
  · rw [decide_eq_true h]; simp [h]
  · rw [decide_eq_false h]; simpa using h
theorem tk_cells {w : World} {g : Nat} {x : Tk} (h : Blk w g 37 (tkC x)) : w.cell? ⟨g, 0, none⟩ = some (.int .i64 (x.kind : Int)) ∧ w.cell? ⟨g, 1, none⟩ = some (.string (baL x.text)) ∧ w.cell? ⟨g, 2, none⟩ = some (.int .i64 (x.line : Int)) := ⟨h.cell 0, h.cell 1, h.cell 2⟩
set_option maxHeartbeats 4000000 in
theorem same1_any (w : World) (x y : Tk) : Calls Try.prog 17 #[.agg (tkC x).toArray, .agg (tkC y).toArray] w fun e w' => e = .returned (.bool (sameT x y)) ∧ Below w.heap.size w w' := by
  have hB1 := Blk.new w 37 (tkC x)
  obtain ⟨w1, hw1⟩ : ∃ w1, w1 = w.alloc (.cells (tkC x).toArray 37) := ⟨_, rfl⟩
  have hs1 : w1.heap.size = w.heap.size + 1 := by rw [hw1]; simp
  rw [← hw1] at hB1
  have hB2 := Blk.new w1 37 (tkC y)
  obtain ⟨a0, a1, a2⟩ := tk_cells (hB1.alloc (.cells (tkC y).toArray 37))
  obtain ⟨c0, c1, c2⟩ := tk_cells hB2
  rw [hs1] at c0 c1 c2
  have HB := Lib.hid ((show Below w.heap.size w w1 by rw [hw1]; exact pnew w _).trans ((pnew w1 (.cells (tkC y).toArray 37)).mono (by omega)))
  rw [hw1] at a0 a1 a2 c0 c1 c2 HB
  have HQ : Hid (sameT x y = (decide (x.kind = y.kind) && decide (x.text = y.text))) := Lib.hid rfl
  have hsv := str_eqL x.text y.text
  obtain ⟨X, hX⟩ : ∃ X, X = baL x.text := ⟨_, rfl⟩
  obtain ⟨Y, hY⟩ : ∃ X, X = baL y.text := ⟨_, rfl⟩
  obtain ⟨q, hq⟩ : ∃ q, q = decide (x.text = y.text) := ⟨_, rfl⟩
  rw [← hq] at hsv HQ
  rw [← hX, ← hY] at hsv
  rw [← hX] at a1
  rw [← hY] at c1
  unfold tkC at a0 a1 a2 c0 c1 c2 HB ⊢
  rw [← hX, ← hY] at a0 a1 a2 c0 c1 c2 HB ⊢
  obtain ⟨xk, hxk⟩ : ∃ k, k = x.kind := ⟨_, rfl⟩
  obtain ⟨yk, hyk⟩ : ∃ k, k = y.kind := ⟨_, rfl⟩
  obtain ⟨xl, hxl⟩ : ∃ k, k = x.line := ⟨_, rfl⟩
  obtain ⟨yl, hyl⟩ : ∃ k, k = y.line := ⟨_, rfl⟩
  rw [← hxk, ← hyk] at HQ
  rw [← hxk, ← hyk, ← hxl, ← hyl] at a0 a1 a2 c0 c1 c2 HB ⊢
  clear hX hY hq hxk hyk hxl hyl hB1 hB2 hw1 hs1
  by_cases h : (xk : Int) = (yk : Int)
  · have e1 : ((xk : Int) = (yk : Int)) = True := eq_true h
    have e2 : decide ((xk : Int) = (yk : Int)) = true := decide_eq_true h
    have e3 : ((xk : Int) == (yk : Int)) = true := by simpa using h
    have HE : Hid (sameT x y = q) := Lib.hid (by rw [HQ.out, decide_eq_true (by omega), Bool.true_and])
    clear h
    go_enter Try.func17, Try.ntmps17
    go_wp2_with fail
    go_ret
    exact ⟨pret_bool (by rw [HE.out]), HB.out⟩
  · have e1 : ((xk : Int) = (yk : Int)) = False := eq_false h
    have e2 : decide ((xk : Int) = (yk : Int)) = false := decide_eq_false h
    have e3 : ((xk : Int) == (yk : Int)) = false := by simpa using h
    have HE : Hid (sameT x y = false) := Lib.hid (by rw [HQ.out, decide_eq_false (by omega), Bool.false_and])
    clear h
    go_enter Try.func17, Try.ntmps17
    go_wp2_with fail
    go_ret
    exact ⟨pret_bool (by rw [HE.out]), HB.out⟩
theorem kt_ne {p q : List Tk} {i : Nat} {a b : Tk} (h1 : p[i]? = some a) (h2 : q[i]? = some b) (h : sameT a b = false) : decide (p.map ktL = q.map ktL) = false := by
  refine decide_eq_false fun e => ?_
  have e1 : (p.map ktL)[i]? = some (ktL a) := by rw [List.getElem?_map, h1]; rfl
  have e2 : (q.map ktL)[i]? = some (ktL b) := by rw [List.getElem?_map, h2]; rfl
  rw [e, e2] at e1
  have := (sameT_iff a b).2 (by injection e1 with e1; exact e1.symm)
  rw [h] at this
  cases this
theorem kt_len {p q : List Tk} (h : p.length ≠ q.length) : decide (p.map ktL = q.map ktL) = false := decide_eq_false fun e => h (by simpa using congrArg List.length e)
theorem kt_ext {p q : List Tk} (hl : p.length = q.length) (h : ∀ (j : Nat) t u, p[j]? = some t → q[j]? = some u → ktL t = ktL u) : p.map ktL = q.map ktL := by
  apply List.ext_getElem?
  intro j
  rw [List.getElem?_map, List.getElem?_map]
  rcases Nat.lt_or_ge j p.length with hj | hj
  · have e1 := List.getElem?_eq_getElem hj
    have e2 := List.getElem?_eq_getElem (l := q) (i := j) (by omega)
    rw [e1, e2, Option.map_some, Option.map_some, h j _ _ e1 e2]
  · rw [List.getElem?_eq_none hj, List.getElem?_eq_none (by omega)]
theorem rng_only {w w' : World} {g o : Nat} {cs : List Value} (h : w.rangeAt g o cs) (ho : Only [] w w') : w'.rangeAt g o cs := fun j v hj => only_cell ho (h j v hj) (by simp)
set_option maxHeartbeats 4000000 in
theorem leqf_any (w : World) (A : Option Addr) (n c : Nat) (ts : List Tk) (h : TIn w A n c ts) (B : Option Addr) (m d : Nat) (us : List Tk) (k : TIn w B m d us) :
    Calls Try.prog 16 #[.slice A n c, .slice B m d, .func (.func 17) #[] #[]] w fun e w' => e = .returned (.bool (decide (ts.map ktL = us.map ktL))) ∧ Below w.heap.size w w' := by
  have hbig : n ≤ 9223372036854775807 := by have := h.cap; have := h.big; omega
  have H := Lib.hid (And.intro h k)
  have HL := Lib.hid (And.intro h.len k.len)
  clear h k
  by_cases hnm : n = m
  · subst hnm
    go_enter Try.func16, Try.ntmps16
    go_wp2_with fail
    go_loopw [17] (fun iv wr => ∃ i : Nat, i ≤ n ∧ iv = .int .i64 i ∧ Hid (∀ (j : Nat) t u, j < i → ts[j]? = some t → us[j]? = some u → ktL t = ktL u) ∧ Hid (Below w.heap.size w wr)) (fun iv _ => n - (intOf iv).toNat)
    case atStart => exact ⟨0, by omega, rfl, Lib.hid (fun j t u h => absurd h (by omega)), Lib.hid (Below.refl _ _)⟩
    case round =>
      obtain ⟨i, hi, rfl, HK, HW⟩ := hrel
      by_cases hlt : i < n
      · obtain ⟨g, o, x, rfl, hg, hx, hr⟩ := (H.out.1.below HW.out).rng hlt
        obtain ⟨g2, o2, y, rfl, hg2, hy, hr2⟩ := (H.out.2.below HW.out).rng hlt
        have HC := Lib.hid (And.intro hr hr2)
        have HT := Lib.hid (And.intro hx hy)
        have HZ := Lib.hid (Blk.new wr 37 (tkC tkZ))
        have HG := Lib.hid (And.intro hg hg2)
        have b0 : (0 : Int) ≤ (i : Int) := by omega
        have b1 : (i : Int) < (n : Int) := by omega
        clear hx hr hy hr2 hg hg2
        go_wp2_with (first
          | (refine wpList_load_mid rfl 37 (.tmp 20) rfl g (o + i * 3) rfl _ _ HC.out.1 Try.underlying37 rfl tk_size ?_)
          | (refine wpList_store_blk rfl 37 (.tmp 8) (.tmp 21) rfl wr.heap.size 0 (tkC x) rfl rfl HZ.out (by simp [tkC]) (tk_size.trans (by simp [tkC])) (tkC_one _) ?_; intro w2 hA hO; rw [over_whole (by simp [tkC])] at hA; have hO2 := only_own (Only.of_below (S := []) (pnew wr _)) hO; have H2 := Lib.hid (And.intro hA (And.intro hO2 (Blk.new w2 37 (tkC tkZ)))); clear hA hO hO2)
          | (refine wpList_load_mid rfl 37 (.tmp 24) rfl g2 (o2 + i * 3) rfl _ _ (rng_only HC.out.2 H2.out.2.1) Try.underlying37 rfl tk_size ?_)
          | (refine wpList_store_blk rfl 37 (.tmp 9) (.tmp 25) rfl w2.heap.size 0 (tkC y) rfl rfl H2.out.2.2 (by simp [tkC]) (tk_size.trans (by simp [tkC])) (tkC_one _) ?_; intro w3 hA hO; rw [over_whole (by simp [tkC])] at hA; have hO2 := only_own (Only.of_below (S := []) (pnew w2 _)) hO; have H3 := Lib.hid (And.intro hA (And.intro (H2.out.2.1.trans hO2) (H2.out.1.only hO2 (by simp)))); clear hA hO hO2)
          | (refine wpList_load_mid rfl 37 (.tmp 8) rfl wr.heap.size 0 rfl _ _ H3.out.2.2.range Try.underlying37 rfl tk_size ?_)
          | (refine wpList_load_mid rfl 37 (.tmp 9) rfl w2.heap.size 0 rfl _ _ H3.out.1.range Try.underlying37 rfl tk_size ?_))
        refine (same1_any w3 x y).mono ?_
        rintro en w4 ⟨rfl, h4⟩
        have H4 := Lib.hid ((HW.out.trans (H3.out.2.1.below HW.out.size (by simp))).trans (h4.mono (Nat.le_trans HW.out.size H3.out.2.1.size)))
        clear h4
        cases hs : sameT x y with
        | true =>
          have HE : Hid (∀ (j : Nat) t u, j < i + 1 → ts[j]? = some t → us[j]? = some u → ktL t = ktL u) := Lib.hid (fun j t u hj h1 h2 => by
            by_cases hji : j < i
            · exact HK.out j t u hji h1 h2
            · obtain rfl : j = i := by omega
              have e1 := HT.out.1
              have e2 := HT.out.2
              rw [h1] at e1
              rw [h2] at e2
              cases e1
              cases e2
              exact (sameT_iff _ _).1 hs)
          clear hs
          go_wp2_with fail
          exact ⟨⟨i + 1, by omega, by go_num, HE, H4⟩, by simp [intOf]; omega⟩
        | false =>
          have HE := Lib.hid (kt_ne HT.out.1 HT.out.2 hs)
          clear hs
          go_wp2_with fail
          (try rw [Exit.noGoto_ret])
          go_ret
          exact ⟨pret_bool (by rw [HE.out]), H4.out⟩
      · obtain rfl : i = n := by omega
        have HE : Hid (decide (ts.map ktL = us.map ktL) = true) := Lib.hid (decide_eq_true (kt_ext (by rw [HL.out.1, HL.out.2]) (fun j t u h1 h2 => HK.out j t u (by have := (List.getElem?_eq_some_iff.1 h1).1; have := HL.out.1; omega) h1 h2)))
        go_wp2_with fail
        go_ret
        exact ⟨pret_bool (by rw [HE.out]), HW.out⟩
  · have HE := Lib.hid (kt_len (p := ts) (q := us) (by rw [HL.out.1, HL.out.2]; exact hnm))
    have hd : ¬ (n : Int) = m := by omega
    obtain ⟨f1, f2, f3, f4⟩ := ne_facts n m hd
    go_enter Try.func16, Try.ntmps16
    go_wp2_with fail
    go_ret
    exact ⟨pret_bool (by rw [HE.out]), Below.refl _ _⟩
set_option maxHeartbeats 1000000 in
theorem lsame_any (w : World) (A : Option Addr) (n c : Nat) (ts : List Tk) (h : TIn w A n c ts) (B : Option Addr) (m d : Nat) (us : List Tk) (k : TIn w B m d us) :
    Calls Try.prog 10 #[.slice A n c, .slice B m d] w fun e w' => e = .returned (.bool (decide (ts.map ktL = us.map ktL))) ∧ Below w.heap.size w w' := by
  have HE := Lib.hid (leqf_any w A n c ts h B m d us k)
  clear h k
  go_enter Try.func10, Try.ntmps10
  go_wp2_with fail
  refine HE.out.mono ?_
  rintro e w2 ⟨rfl, h2⟩
  have H2 := Lib.hid h2
  clear h2
  go_wp2_with fail
  go_ret
  exact ⟨rfl, H2.out⟩
end Go.Proofs.Ytammomjnigalbaa
