/-
  Text: walked. Conditions: the tokens lie in memory; sizes.
-/
import Derived.Test.YtammomjnigalbaaLText
set_option linter.unusedSimpArgs false
set_option linter.unusedVariables false
set_option maxRecDepth 100000
namespace Go.Proofs.Ytammomjnigalbaa
open Go.RowKit

set_option maxHeartbeats 8000000 in
theorem text_any (w : World) (A : Option Addr) (n c : Nat) (ts : List Tk) (h : TIn w A n c ts) (hn : n ≤ 800) (hT : ∀ x ∈ ts, x.text.length ≤ 60) :
    Calls Try.prog 8 #[.slice A n c] w fun e w' => e = .returned (.string (baL (textL false (ts.map (·.text))))) ∧ Below w.heap.size w w' := by
  have H := Lib.hid (And.intro h hT)
  have HA := Lib.hid (textAt_all h.len)
  have hcap := h.cap
  have hbig := h.big
  clear h hT
  go_enter Try.func8, Try.ntmps8
  go_wp2_with fail
  go_loopw [3, 4, 9] (fun u3 u4 iv wr => ∃ (i : Nat) (B : By) (sp : Bool), i ≤ n ∧ iv = .int .i64 i ∧ u4 = .bool sp ∧ B.length ≤ i * 62 ∧ Hid (textAt ts i = (B, sp)) ∧ Hid (wr.ownsRow w.heap.size 5 1 u3 B.length (Lib.byteCells B)) ∧ Hid (Below w.heap.size w wr)) (fun _ _ iv _ => n - (intOf iv).toNat)
  case atStart => exact ⟨0, [], false, by omega, rfl, rfl, by simp, Lib.hid rfl, Lib.hid (World.ownsRow_nil _ _ _ _), Lib.hid (Below.refl _ _)⟩
  case round =>
    obtain ⟨i, B, sp, hi, rfl, rfl, hBl, HB, HO, HW⟩ := hrel
    by_cases hlt : i < n
    · obtain ⟨g, o, x, rfl, hg, hx, hrng⟩ := (H.out.1.below HW.out).rng hlt
      have hxl : x.text.length ≤ 60 := H.out.2 x (List.mem_of_getElem? hx)
      have HR := Lib.hid hrng
      have HN : Hid (textAt ts (i + 1) = txS (B, sp) x.text) := Lib.hid (by rw [textAt_next hx, HB.out])
      have HZ := Lib.hid (Blk.new wr 37 (tkC tkZ))
      have b0 : (0 : Int) ≤ (i : Int) := by omega
      have b1 : (i : Int) < (n : Int) := by omega
      have b2 : i < n := hlt
      clear hrng hx hg
      cases sp with
      | true =>
        by_cases hs : x.text = [59]
        · obtain ⟨q1, q2⟩ := semi_yes hs
          have HF : Hid (textAt ts (i + 1) = _) := Lib.hid (HN.out.trans (txS_tt hs))
          clear hs
          go_wp2_with (first
            | (refine wpList_load_mid rfl 37 (.tmp 11) rfl g (o + i * 3) rfl _ _ HR.out Try.underlying37 rfl tk_size ?_)
            | (refine wpList_store_blk rfl 37 (.tmp 6) (.tmp 12) rfl wr.heap.size 0 (tkC x) rfl rfl HZ.out (by simp [tkC]) (tk_size.trans (by simp [tkC])) (tkC_one _) ?_; intro w2 hA hO; rw [over_whole (by simp [tkC])] at hA; have hO2 := only_own (Only.of_below (S := []) (pnew wr _)) hO; have k2 : XAt w w2 wr.heap.size x u3 B := ⟨ownsRow_only HO.out hO2 (by simp), hA, HW.out.trans (hO2.below HW.out.size (by simp))⟩; have y2 := k2.text; have H2 := Lib.hid k2; clear hA hO hO2 k2)
            | (refine xat_app (c := 32) (p := w2.heap.size) (m := 1) (H2.out.below (pnew w2 _)) rfl rfl rfl rfl (Blk.new w2 5 [.int .u8 32]) rfl (by omega) ?_; intro v3 w3 k3; have y3 := k3.text; have H3 := Lib.hid k3; clear k3)
            | (refine xat_str (l := x.text) H3.out rfl rfl rfl rfl (by (try simp); omega) ?_; intro v4 w4 k4; have y4 := k4.text; have H4 := Lib.hid k4; clear k4)
            | (refine xat_app (c := 10) (p := w4.heap.size) (m := 1) (H4.out.below (pnew w4 _)) rfl rfl rfl rfl (Blk.new w4 5 [.int .u8 10]) rfl (by (try simp); omega) ?_; intro v5 w5 k5; have H5 := Lib.hid k5; clear k5))
          exact ⟨⟨i + 1, _, _, b2, by go_num, rfl, by (try simp); omega, HF, Lib.hid H5.out.own, Lib.hid H5.out.b⟩, by simp [intOf]; omega⟩
        · obtain ⟨q1, q2⟩ := semi_no hs
          have HF : Hid (textAt ts (i + 1) = _) := Lib.hid (HN.out.trans (txS_tf hs))
          clear hs
          go_wp2_with (first
            | (refine wpList_load_mid rfl 37 (.tmp 11) rfl g (o + i * 3) rfl _ _ HR.out Try.underlying37 rfl tk_size ?_)
            | (refine wpList_store_blk rfl 37 (.tmp 6) (.tmp 12) rfl wr.heap.size 0 (tkC x) rfl rfl HZ.out (by simp [tkC]) (tk_size.trans (by simp [tkC])) (tkC_one _) ?_; intro w2 hA hO; rw [over_whole (by simp [tkC])] at hA; have hO2 := only_own (Only.of_below (S := []) (pnew wr _)) hO; have k2 : XAt w w2 wr.heap.size x u3 B := ⟨ownsRow_only HO.out hO2 (by simp), hA, HW.out.trans (hO2.below HW.out.size (by simp))⟩; have y2 := k2.text; have H2 := Lib.hid k2; clear hA hO hO2 k2)
            | (refine xat_app (c := 32) (p := w2.heap.size) (m := 1) (H2.out.below (pnew w2 _)) rfl rfl rfl rfl (Blk.new w2 5 [.int .u8 32]) rfl (by omega) ?_; intro v3 w3 k3; have y3 := k3.text; have H3 := Lib.hid k3; clear k3)
            | (refine xat_str (l := x.text) H3.out rfl rfl rfl rfl (by (try simp); omega) ?_; intro v4 w4 k4; have y4 := k4.text; have H4 := Lib.hid k4; clear k4))
          exact ⟨⟨i + 1, _, _, b2, by go_num, rfl, by (try simp); omega, HF, Lib.hid H4.out.own, Lib.hid H4.out.b⟩, by simp [intOf]; omega⟩
      | false =>
        by_cases hs : x.text = [59]
        · obtain ⟨q1, q2⟩ := semi_yes hs
          have HF : Hid (textAt ts (i + 1) = _) := Lib.hid (HN.out.trans (txS_ft hs))
          clear hs
          go_wp2_with (first
            | (refine wpList_load_mid rfl 37 (.tmp 11) rfl g (o + i * 3) rfl _ _ HR.out Try.underlying37 rfl tk_size ?_)
            | (refine wpList_store_blk rfl 37 (.tmp 6) (.tmp 12) rfl wr.heap.size 0 (tkC x) rfl rfl HZ.out (by simp [tkC]) (tk_size.trans (by simp [tkC])) (tkC_one _) ?_; intro w2 hA hO; rw [over_whole (by simp [tkC])] at hA; have hO2 := only_own (Only.of_below (S := []) (pnew wr _)) hO; have k2 : XAt w w2 wr.heap.size x u3 B := ⟨ownsRow_only HO.out hO2 (by simp), hA, HW.out.trans (hO2.below HW.out.size (by simp))⟩; have y2 := k2.text; have H2 := Lib.hid k2; clear hA hO hO2 k2)
            | (refine xat_str (l := x.text) H2.out rfl rfl rfl rfl (by (try simp); omega) ?_; intro v4 w4 k4; have y4 := k4.text; have H4 := Lib.hid k4; clear k4)
            | (refine xat_app (c := 10) (p := w4.heap.size) (m := 1) (H4.out.below (pnew w4 _)) rfl rfl rfl rfl (Blk.new w4 5 [.int .u8 10]) rfl (by (try simp); omega) ?_; intro v5 w5 k5; have H5 := Lib.hid k5; clear k5))
          exact ⟨⟨i + 1, _, _, b2, by go_num, rfl, by (try simp); omega, HF, Lib.hid H5.out.own, Lib.hid H5.out.b⟩, by simp [intOf]; omega⟩
        · obtain ⟨q1, q2⟩ := semi_no hs
          have HF : Hid (textAt ts (i + 1) = _) := Lib.hid (HN.out.trans (txS_ff hs))
          clear hs
          go_wp2_with (first
            | (refine wpList_load_mid rfl 37 (.tmp 11) rfl g (o + i * 3) rfl _ _ HR.out Try.underlying37 rfl tk_size ?_)
            | (refine wpList_store_blk rfl 37 (.tmp 6) (.tmp 12) rfl wr.heap.size 0 (tkC x) rfl rfl HZ.out (by simp [tkC]) (tk_size.trans (by simp [tkC])) (tkC_one _) ?_; intro w2 hA hO; rw [over_whole (by simp [tkC])] at hA; have hO2 := only_own (Only.of_below (S := []) (pnew wr _)) hO; have k2 : XAt w w2 wr.heap.size x u3 B := ⟨ownsRow_only HO.out hO2 (by simp), hA, HW.out.trans (hO2.below HW.out.size (by simp))⟩; have y2 := k2.text; have H2 := Lib.hid k2; clear hA hO hO2 k2)
            | (refine xat_str (l := x.text) H2.out rfl rfl rfl rfl (by (try simp); omega) ?_; intro v4 w4 k4; have y4 := k4.text; have H4 := Lib.hid k4; clear k4))
          exact ⟨⟨i + 1, _, _, b2, by go_num, rfl, by (try simp); omega, HF, Lib.hid H4.out.own, Lib.hid H4.out.b⟩, by simp [intOf]; omega⟩
    · obtain rfl : i = n := by omega
      have HE : Hid (B = textL false (ts.map (·.text))) := Lib.hid (by rw [← HA.out, HB.out])
      have HC := Lib.hid (conv_rowt HO.out)
      have hc := HC.out
      go_wp2_with fail
      go_ret
      rw [HE.out]
      exact ⟨rfl, HW.out⟩
end Go.Proofs.Ytammomjnigalbaa
