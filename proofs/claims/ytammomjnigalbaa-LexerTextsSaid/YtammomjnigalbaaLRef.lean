/-
  Words, the law's Of, the document's Text, and the chapter's example: walked. Conditions: the tokens lie in memory; sizes.
-/
import Derived.Test.YtammomjnigalbaaLSame
import Derived.Laws.Concat
set_option linter.unusedSimpArgs false
set_option linter.unusedVariables false
set_option maxRecDepth 100000
namespace Go.Proofs.Ytammomjnigalbaa
open Go.RowKit

theorem lstr_info : (Try.prog.info? 9).map (fun i => (i.zero, i.size, i.bytes)) = some (some (.string ⟨#[]⟩), 1, 16) := by kernel_rfl
/-- Texts' cells. -/
def wdC (ts : List Tk) : List Value := ts.map fun x => .string (baL x.text)
/-- The texts of tokens lie in memory. -/
structure WdIn (w : World) (A : Option Addr) (n c : Nat) (ts : List Tk) : Prop where
  len : ts.length = n
  cap : n ≤ c
  big : c ≤ 9223372036854775807
  cells : 0 < n → ∃ g o, A = some ⟨g, o, none⟩ ∧ g < w.heap.size ∧ ∀ (i : Nat) x, ts[i]? = some x → w.cell? ⟨g, o + i, none⟩ = some (.string (baL x.text))
theorem WdIn.below {w w' : World} {A : Option Addr} {n c : Nat} {ts : List Tk} (h : WdIn w A n c ts) (hb : Below w.heap.size w w') : WdIn w' A n c ts := by
  refine ⟨h.len, h.cap, h.big, fun hn => ?_⟩
  obtain ⟨g, o, hA, hg, hc⟩ := h.cells hn
  exact ⟨g, o, hA, Nat.lt_of_lt_of_le hg hb.size, fun i x hx => (hb.cell (p := ⟨g, _, none⟩) hg).trans (hc i x hx)⟩
theorem WdIn.of_own {w : World} {N n : Nat} {v : Value} {ts : List Tk} (h : w.ownsRow N 9 1 v n (wdC ts)) (hl : ts.length = n) : ∃ A c, v = .slice A n c ∧ WdIn w A n c ts := by
  rcases h.2 with ⟨rfl, h0⟩ | ⟨g, cap, cur, rfl, hg, hb, h1, h2, h3, h4⟩
  · exact ⟨none, 0, by rw [h0], hl, by omega, by omega, fun hp => absurd hp (by omega)⟩
  · refine ⟨_, _, rfl, hl, h1, by unfold maxLen at h2; omega, fun hp => ⟨g, 0, rfl, (Array.getElem?_eq_some_iff.1 hb).1, fun i x hx => ?_⟩⟩
    have hk : Blk w g 9 cur.toList := by simpa [Blk] using hb
    rw [hk.cell, Nat.zero_add]
    have h5 : (wdC ts)[i]? = some (.string (baL x.text)) := by unfold wdC; rw [List.getElem?_map, hx]; rfl
    rw [← h4, List.getElem?_take] at h5
    split at h5
    · exact h5
    · cases h5
theorem wdC_next {ts : List Tk} {i : Nat} {x : Tk} (h : ts[i]? = some x) : wdC (ts.take (i + 1)) = wdC (ts.take i) ++ [.string (baL x.text)] := by
  unfold wdC
  rw [List.take_add_one, h, Option.toList_some, List.map_append]
  rfl
set_option maxHeartbeats 4000000 in
theorem words_any (w : World) (A : Option Addr) (n c : Nat) (ts : List Tk) (h : TIn w A n c ts) (hn : n ≤ 800) :
    Calls Try.prog 9 #[.slice A n c] w fun e w' => ∃ B d, e = .returned (.slice B n d) ∧ WdIn w' B n d ts ∧ Below w.heap.size w w' := by
  have H := Lib.hid h
  have HL := Lib.hid h.len
  have hcap := h.cap
  have hbig := h.big
  clear h
  go_enter Try.func9, Try.ntmps9
  go_wp2_with fail
  go_loopw [3, 8] (fun u3 iv wr => ∃ i : Nat, i ≤ n ∧ iv = .int .i64 i ∧ Hid (wr.ownsRow w.heap.size 9 1 u3 i (wdC (ts.take i))) ∧ Hid (Below w.heap.size w wr)) (fun _ iv _ => n - (intOf iv).toNat)
  case atStart => exact ⟨0, by omega, rfl, Lib.hid (World.ownsRow_nil _ _ _ _), Lib.hid (Below.refl _ _)⟩
  case round =>
    obtain ⟨i, hi, rfl, HO, HW⟩ := hrel
    by_cases hlt : i < n
    · obtain ⟨g, o, x, rfl, hg, hx, hrng⟩ := (H.out.below HW.out).rng hlt
      have HR := Lib.hid hrng
      have HX := Lib.hid hx
      have HZ := Lib.hid (Blk.new wr 37 (tkC tkZ))
      have b0 : (0 : Int) ≤ (i : Int) := by omega
      have b1 : (i : Int) < (n : Int) := by omega
      clear hrng hx hg
      go_wp2_with (first
        | (refine wpList_load_mid rfl 37 (.tmp 10) rfl g (o + i * 3) rfl _ _ HR.out Try.underlying37 rfl tk_size ?_)
        | (refine wpList_store_blk rfl 37 (.tmp 5) (.tmp 11) rfl wr.heap.size 0 (tkC x) rfl rfl HZ.out (by simp [tkC]) (tk_size.trans (by simp [tkC])) (tkC_one _) ?_; intro w2 hA hO; rw [over_whole (by simp [tkC])] at hA; have hO2 := only_own (Only.of_below (S := []) (pnew wr _)) hO; have y1 := (tk_cells hA).2.1; have H2 := Lib.hid (And.intro hO2 (Blk.new w2 9 [.string (baL x.text)])); clear hA hO hO2)
        | (refine wpList_app (v := u3) (base := w.heap.size) (n := i) (m := 1) (c := 1) (A := some ⟨w2.heap.size, 0, none⟩) (e := 9) (size := 1) rfl rfl Try.underlying28 lstr_info rfl (by decide) [.string (baL x.text)] rfl (ownsRow_only (S := []) (ownsRow_only (S := []) HO.out H2.out.1 (by simp)) (Only.of_below (pnew w2 _)) (by simp)) rfl rfl (fun _ => ⟨_, _, rfl, fun j u hu => by rw [Nat.zero_add]; exact (H2.out.2.cell j).trans hu⟩) (by simp [Value.oneCell']) (by omega) (by decide) (Nat.le_trans HW.out.size (Nat.le_trans H2.out.1.size (pnew w2 (.cells #[.string (baL x.text)] 9)).size)) ?_; intro v5 w4 k1 k2 k3))
      rw [← wdC_next HX.out] at k1
      have HF := Lib.hid (And.intro k1 (((HW.out.trans (H2.out.1.below HW.out.size (by simp))).trans ((pnew w2 (.cells #[.string (baL x.text)] 9)).mono (Nat.le_trans HW.out.size H2.out.1.size))).trans (k2.below (Nat.le_trans HW.out.size (Nat.le_trans H2.out.1.size (pnew w2 _).size)) (fun b hb => (HO.out.lt b (by simpa using hb)).1))))
      clear k1 k2 k3
      exact ⟨⟨i + 1, by omega, by go_num, Lib.hid HF.out.1, Lib.hid HF.out.2⟩, by simp [intOf]; omega⟩
    · obtain rfl : i = n := by omega
      have HE : Hid (ts.take i = ts) := Lib.hid (by rw [← HL.out, List.take_length])
      have hu := HO.out
      rw [HE.out] at hu
      obtain ⟨B, d, rfl, hW⟩ := WdIn.of_own hu HL.out
      have HF := Lib.hid hW
      clear hu hW HO
      go_wp2_with fail
      go_ret
      exact ⟨B, d, rfl, HF.out, HW.out⟩

/-! The document's Text. -/
theorem ba_app (a b : By) : baL a ++ baL b = baL (a ++ b) := ba_ext.2 (by
  show (baL a ++ baL b).data.toList = _
  rw [ByteArray.data_append, Array.toList_append]
  rfl)
theorem add_ba (a b : By) (h : a.length + b.length ≤ 1000000) (W : World) : (Op.stringOp .add (baL a) (baL b)).run Try.prog W = .ok (.string (baL (a ++ b))) W := by
  have h1 := run_string_add_sum (P := Try.prog) (w := W) (baL a) (baL b) (by rw [ba_size, ba_size]; omega)
  rw [h1, ba_app]
theorem textAt_sp {ts : List Tk} {i : Nat} {x : Tk} (h : ts[i]? = some x) : (textAt ts (i + 1)).2 = !decide (x.text = [59]) := by rw [textAt_next h]; rfl
set_option maxHeartbeats 8000000 in
theorem rtext_any (w : World) (A : Option Addr) (n c : Nat) (ts : List Tk) (h : TIn w A n c ts) (hn : n ≤ 800) (hT : ∀ x ∈ ts, x.text.length ≤ 60) :
    Calls Try.prog 11 #[.slice A n c] w fun e w' => e = .returned (.string (baL (textL false (ts.map (·.text))))) ∧ Below w.heap.size w w' := by
  have H := Lib.hid (And.intro h hT)
  have HA := Lib.hid (textAt_all h.len)
  have hcap := h.cap
  have hbig := h.big
  clear h hT
  go_enter Try.func11, Try.ntmps11
  go_wp2_with fail
  go_loopw [3, 4] (fun u3 iv wr => ∃ (i : Nat) (B : By), i ≤ n ∧ iv = .int .i64 i ∧ u3 = .string (baL B) ∧ B.length ≤ i * 62 ∧ Hid ((textAt ts i).1 = B) ∧ Hid (Below w.heap.size w wr)) (fun _ iv _ => n - (intOf iv).toNat)
  case atStart => exact ⟨0, [], by omega, rfl, rfl, by simp, Lib.hid rfl, Lib.hid (Below.refl _ _)⟩
  case round =>
    obtain ⟨i, B, hi, rfl, rfl, hBl, HB, HW⟩ := hrel
    by_cases hlt : i < n
    · obtain ⟨g, o, x, rfl, hg, hx, hrng⟩ := (H.out.1.below HW.out).rng hlt
      have hxl : x.text.length ≤ 60 := H.out.2 x (List.mem_of_getElem? hx)
      have y1 : wr.cell? ⟨g, o + i * 3 + 1, none⟩ = some (.string (baL x.text)) := hrng 1 _ rfl
      have b0 : (0 : Int) ≤ (i : Int) := by omega
      have b1 : (i : Int) < (n : Int) := by omega
      have b2 : i < n := hlt
      obtain ⟨sp, hsp⟩ : ∃ sp, sp = (textAt ts i).2 := ⟨_, rfl⟩
      have HN : Hid (textAt ts (i + 1) = txS (B, sp) x.text) := Lib.hid (by rw [textAt_next hx, ← HB.out, hsp])
      obtain ⟨C1, hC1⟩ : ∃ C, C = B ++ [32] := ⟨_, rfl⟩
      obtain ⟨C2, hC2⟩ : ∃ C, C = B ++ x.text := ⟨_, rfl⟩
      obtain ⟨C3, hC3⟩ : ∃ C, C = C1 ++ x.text := ⟨_, rfl⟩
      obtain ⟨C4, hC4⟩ : ∃ C, C = C2 ++ [10] := ⟨_, rfl⟩
      obtain ⟨C5, hC5⟩ : ∃ C, C = C3 ++ [10] := ⟨_, rfl⟩
      have l1 : C1.length = B.length + 1 := by rw [hC1]; simp
      have l2 : C2.length = B.length + x.text.length := by rw [hC2]; simp
      have l3 : C3.length = C1.length + x.text.length := by rw [hC3]; simp
      have l4 : C4.length = C2.length + 1 := by rw [hC4]; simp
      have l5 : C5.length = C3.length + 1 := by rw [hC5]; simp
      have s1 := fun W => add_ba B [32] (by simp; omega) W
      have s2 := fun W => add_ba B x.text (by omega) W
      have s3 := fun W => add_ba C1 x.text (by omega) W
      have s4 := fun W => add_ba C2 [10] (by simp; omega) W
      have s5 := fun W => add_ba C3 [10] (by simp; omega) W
      rw [show baL [32] = ⟨#[32]⟩ from rfl, ← hC1] at s1
      rw [← hC2] at s2
      rw [← hC3] at s3
      rw [show baL [10] = ⟨#[10]⟩ from rfl, ← hC4] at s4
      rw [show baL [10] = ⟨#[10]⟩ from rfl, ← hC5] at s5
      have HLN : Hid (C2.length ≤ (i + 1) * 62 ∧ C3.length ≤ (i + 1) * 62 ∧ C4.length ≤ (i + 1) * 62 ∧ C5.length ≤ (i + 1) * 62) := Lib.hid ⟨by omega, by omega, by omega, by omega⟩
      have HC : Hid ((x.text = [59] → (txS (B, true) x.text).1 = C5 ∧ (txS (B, false) x.text).1 = C4) ∧ (¬ x.text = [59] → (txS (B, true) x.text).1 = C3 ∧ (txS (B, false) x.text).1 = C2)) := Lib.hid ⟨fun h => by rw [txS_tt h, txS_ft h, hC5, hC4, hC3, hC2, hC1]; exact ⟨rfl, rfl⟩, fun h => by rw [txS_tf h, txS_ff h, hC3, hC2, hC1]; exact ⟨rfl, rfl⟩⟩
      clear hC1 hC2 hC3 hC4 hC5 l1 l2 l3 l4 l5
      clear hrng
      by_cases hs : x.text = [59]
      · obtain ⟨q1, q2⟩ := semi_yes hs
        have HS := Lib.hid hs
        clear hs
        by_cases h0 : i = 0
        · subst h0
          obtain rfl : sp = false := hsp
          have HF : Hid ((textAt ts (0 + 1)).1 = _ ∧ _ ≤ (0 + 1) * 62) := Lib.hid ⟨(congrArg Prod.fst HN.out).trans (HC.out.1 HS.out).2, HLN.out.2.2.1⟩
          rw [Nat.zero_mul, Nat.add_zero] at y1
          go_wp2_with fail
          exact ⟨⟨1, _, by omega, rfl, rfl, HF.out.2, Lib.hid HF.out.1, HW⟩, by simp [intOf]; omega⟩
        · obtain ⟨k, rfl⟩ : ∃ k, i = k + 1 := ⟨i - 1, by omega⟩
          obtain ⟨z, hz⟩ : ∃ z, ts[k]? = some z := ⟨_, List.getElem?_eq_getElem (by rw [H.out.1.len]; omega)⟩
          have hk := textAt_sp hz
          rw [hk] at hsp
          obtain ⟨g', o', z', hA', hg', hz', hrng'⟩ := (H.out.1.below HW.out).rng (show k < n by omega)
          cases hA'
          rw [hz] at hz'
          cases hz'
          have y2 : wr.cell? ⟨g, o + k * 3 + 1, none⟩ = some (.string (baL z.text)) := hrng' 1 _ rfl
          have p0 : ((0 : Int) < (k : Int) + 1) = True := eq_true (by omega)
          have p1 : (k : Int) + 1 - 1 = (k : Int) := by omega
          have p2 : (0 : Int) ≤ (k : Int) := by omega
          have p3 : (k : Int) < (n : Int) := by omega
          have p4 : (k : Int) + 1 < (n : Int) := by omega
          have p5 : decide ((0 : Int) < (k : Int) + 1) = true := decide_eq_true (by omega)
          clear hrng' hz hk h0 b0 b1
          by_cases ht : z.text = [59]
          · obtain ⟨r1, r2⟩ := semi_yes ht
            obtain rfl : sp = false := by rw [hsp, decide_eq_true ht]; rfl
            have HF : Hid ((textAt ts (k + 1 + 1)).1 = _ ∧ _ ≤ (k + 1 + 1) * 62) := Lib.hid ⟨(congrArg Prod.fst HN.out).trans (HC.out.1 HS.out).2, HLN.out.2.2.1⟩
            clear hsp ht
            go_wp2_with fail
            exact ⟨⟨k + 1 + 1, _, by omega, by go_num, rfl, HF.out.2, Lib.hid HF.out.1, HW⟩, by simp [intOf]; omega⟩
          · obtain ⟨r1, r2⟩ := semi_no ht
            obtain rfl : sp = true := by rw [hsp, decide_eq_false ht]; rfl
            have HF : Hid ((textAt ts (k + 1 + 1)).1 = _ ∧ _ ≤ (k + 1 + 1) * 62) := Lib.hid ⟨(congrArg Prod.fst HN.out).trans (HC.out.1 HS.out).1, HLN.out.2.2.2⟩
            clear hsp ht
            go_wp2_with fail
            exact ⟨⟨k + 1 + 1, _, by omega, by go_num, rfl, HF.out.2, Lib.hid HF.out.1, HW⟩, by simp [intOf]; omega⟩
      · obtain ⟨q1, q2⟩ := semi_no hs
        have HS := Lib.hid hs
        clear hs
        by_cases h0 : i = 0
        · subst h0
          obtain rfl : sp = false := hsp
          have HF : Hid ((textAt ts (0 + 1)).1 = _ ∧ _ ≤ (0 + 1) * 62) := Lib.hid ⟨(congrArg Prod.fst HN.out).trans (HC.out.2 HS.out).2, HLN.out.1⟩
          rw [Nat.zero_mul, Nat.add_zero] at y1
          go_wp2_with fail
          exact ⟨⟨1, _, by omega, rfl, rfl, HF.out.2, Lib.hid HF.out.1, HW⟩, by simp [intOf]; omega⟩
        · obtain ⟨k, rfl⟩ : ∃ k, i = k + 1 := ⟨i - 1, by omega⟩
          obtain ⟨z, hz⟩ : ∃ z, ts[k]? = some z := ⟨_, List.getElem?_eq_getElem (by rw [H.out.1.len]; omega)⟩
          have hk := textAt_sp hz
          rw [hk] at hsp
          obtain ⟨g', o', z', hA', hg', hz', hrng'⟩ := (H.out.1.below HW.out).rng (show k < n by omega)
          cases hA'
          rw [hz] at hz'
          cases hz'
          have y2 : wr.cell? ⟨g, o + k * 3 + 1, none⟩ = some (.string (baL z.text)) := hrng' 1 _ rfl
          have p0 : ((0 : Int) < (k : Int) + 1) = True := eq_true (by omega)
          have p1 : (k : Int) + 1 - 1 = (k : Int) := by omega
          have p2 : (0 : Int) ≤ (k : Int) := by omega
          have p3 : (k : Int) < (n : Int) := by omega
          have p4 : (k : Int) + 1 < (n : Int) := by omega
          have p5 : decide ((0 : Int) < (k : Int) + 1) = true := decide_eq_true (by omega)
          clear hrng' hz hk h0 b0 b1
          by_cases ht : z.text = [59]
          · obtain ⟨r1, r2⟩ := semi_yes ht
            obtain rfl : sp = false := by rw [hsp, decide_eq_true ht]; rfl
            have HF : Hid ((textAt ts (k + 1 + 1)).1 = _ ∧ _ ≤ (k + 1 + 1) * 62) := Lib.hid ⟨(congrArg Prod.fst HN.out).trans (HC.out.2 HS.out).2, HLN.out.1⟩
            clear hsp ht
            go_wp2_with fail
            exact ⟨⟨k + 1 + 1, _, by omega, by go_num, rfl, HF.out.2, Lib.hid HF.out.1, HW⟩, by simp [intOf]; omega⟩
          · obtain ⟨r1, r2⟩ := semi_no ht
            obtain rfl : sp = true := by rw [hsp, decide_eq_false ht]; rfl
            have HF : Hid ((textAt ts (k + 1 + 1)).1 = _ ∧ _ ≤ (k + 1 + 1) * 62) := Lib.hid ⟨(congrArg Prod.fst HN.out).trans (HC.out.2 HS.out).1, HLN.out.2.1⟩
            clear hsp ht
            go_wp2_with fail
            exact ⟨⟨k + 1 + 1, _, by omega, by go_num, rfl, HF.out.2, Lib.hid HF.out.1, HW⟩, by simp [intOf]; omega⟩
    · obtain rfl : i = n := by omega
      have HE : Hid (B = textL false (ts.map (·.text))) := Lib.hid (by rw [← HA.out, HB.out])
      go_wp2_with fail
      go_ret
      rw [HE.out]
      exact ⟨rfl, HW.out⟩
end Go.Proofs.Ytammomjnigalbaa
