/-
  The law's Of, and the chapter's example: walked. Conditions: the tokens lie in memory; sizes.
-/
import Derived.Test.YtammomjnigalbaaLRef
import Derived.Test.YtammomjnigalbaaLTextW
set_option linter.unusedSimpArgs false
set_option linter.unusedVariables false
set_option maxRecDepth 100000
namespace Go.Proofs.Ytammomjnigalbaa
open Go.RowKit

theorem TIn.of_ownE {w : World} {N e : Nat} {v : Value} {ts : List Tk} (h : w.ownsRow N e 3 v ts.length (rowK ts)) : ∃ A c, v = .slice A ts.length c ∧ TIn w A ts.length c ts := by
  rcases h.2 with ⟨rfl, h0⟩ | ⟨g, cap, cur, rfl, hg, hb, h1, h2, h3, h4⟩
  · have he : ts = [] := List.eq_nil_of_length_eq_zero h0
    subst he
    exact ⟨_, _, rfl, TIn.none w⟩
  · refine ⟨_, _, rfl, rfl, h1, by unfold maxLen at h2; omega, (fun ha => by cases ha), fun hp => ⟨g, 0, rfl, (Array.getElem?_eq_some_iff.1 hb).1, fun i x hx j u hu => ?_⟩⟩
    have hk : Blk w g e cur.toList := by simpa [Blk] using hb
    rw [hk.cell, Nat.zero_add]
    have h5 := rowK_get hx hu
    rw [← h4, List.getElem?_take] at h5
    split at h5
    · exact h5
    · cases h5
theorem rtk_info : (Try.prog.info? 52).map (fun i => (i.zero, i.size, i.bytes)) = some (some (.agg (tkC tkZ).toArray), 3, 32) := by kernel_rfl
theorem rtk_build (W : World) (k n : Nat) (s : ByteArray) : (Instr.build 52 #[(0, .int .i64 (k : Int)), (1, .string s), (2, .int .i64 (n : Int))]).run Try.prog W = .ok (.agg #[.int .i64 (k : Int), .string s, .int .i64 (n : Int)]) W := by kernel_rfl
theorem slice_rtk (W : World) (x : Tk) : (Instr.buildSlice 32 1 #[(0, .agg (tkC x).toArray)]).run Try.prog W = .ok (.slice (some ⟨W.heap.size, 0, none⟩) 1 1) (W.alloc (.cells (tkC x).toArray 52)) := by kernel_rfl
def oneR (N : Nat) (x : Tk) : Value → World → Prop := fun u w => ∃ p, u = .slice (some ⟨p, 0, none⟩) 1 1 ∧ N ≤ p ∧ Blk w p 52 (tkC x)
theorem oneR.st (N : Nat) (x : Tk) : StV (oneR N x) := fun _ _ _ ⟨p, h1, h2, h3⟩ hb => ⟨p, h1, h2, h3.below hb h3.lt⟩
set_option maxHeartbeats 4000000 in
theorem lof_any (w : World) (A : Option Addr) (n c : Nat) (ts : List Tk) (h : TIn w A n c ts) (hn : n ≤ 800) :
    Calls Try.prog 12 #[.slice A n c] w fun e w' => ∃ B d, e = .returned (.slice B n d) ∧ TIn w' B n d ts ∧ Below w.heap.size w w' := by
  have H := Lib.hid h
  have HL := Lib.hid h.len
  have hcap := h.cap
  have hbig := h.big
  clear h
  go_enter Try.func12, Try.ntmps12
  go_wp2_with fail
  go_loopw [3, 4] (fun u3 iv wr => ∃ i : Nat, i ≤ n ∧ iv = .int .i64 i ∧ Hid (wr.ownsRow w.heap.size 52 3 u3 i (rowK (ts.take i))) ∧ Hid (Below w.heap.size w wr)) (fun _ iv _ => n - (intOf iv).toNat)
  case atStart => exact ⟨0, by omega, rfl, Lib.hid (World.ownsRow_nil _ _ _ _), Lib.hid (Below.refl _ _)⟩
  case round =>
    obtain ⟨i, hi, rfl, HO, HW⟩ := hrel
    by_cases hlt : i < n
    · obtain ⟨g, o, x, rfl, hg, hx, q0, q1, q2⟩ := (H.out.below HW.out).row hlt
      have HX := Lib.hid hx
      have b0 : (0 : Int) ≤ (i : Int) := by omega
      have b1 : (i : Int) < (n : Int) := by omega
      clear hx hg
      go_wp2_with fail
      refine wp_hideQ ?_
      intro QQ hQQ
      refine wp_region_quickT [some 11, some 12, some 13, some 14, some 15, some 16, some 17, some 18, some 19, some 20, some 21, some 22, some 23, some 24, some 25, some 26, some 27, some 28] [isV u3, isV (.slice (some ⟨g, o, none⟩) n c), isV (.int .i64 (i : Int)), isV (.pointer (some ⟨g, o + i * 3, none⟩)), isV (.pointer (some ⟨g, o + i * 3, none⟩)), isV (.int .i64 (x.kind : Int)), isV (.slice (some ⟨g, o, none⟩) n c), isV (.int .i64 (i : Int)), isV (.pointer (some ⟨g, o + i * 3, none⟩)), isV (.pointer (some ⟨g, o + i * 3 + 1, none⟩)), isV (.string (baL x.text)), isV (.slice (some ⟨g, o, none⟩) n c), isV (.int .i64 (i : Int)), isV (.pointer (some ⟨g, o + i * 3, none⟩)), isV (.pointer (some ⟨g, o + i * 3 + 2, none⟩)), isV (.int .i64 (x.line : Int)), isV (.agg (tkC x).toArray), oneR wr.heap.size x] 18 20 (by kernel_rfl) rfl rfl rfl rfl (by kernel_rfl) (by kernel_rfl) (by simp [isV.st, oneR.st]) ?_ ?_
      · intro hq rz hz
        match rz, hz with
        | 0, _ =>
          refine StepL.val rfl [] (by decide +kernel) ?_
          intro v wx hR hd
          exact ⟨wanted_plain rfl _, _, _, x_move rfl (fill_off rfl rfl), hR, Below.refl _ _, rfl⟩
        | 1, _ =>
          refine StepL.val rfl [] (by decide +kernel) ?_
          intro v wx hR hd
          exact ⟨wanted_plain rfl _, _, _, x_move rfl (fill_off rfl rfl), hR, Below.refl _ _, rfl⟩
        | 2, _ =>
          refine StepL.val rfl [] (by decide +kernel) ?_
          intro v wx hR hd
          exact ⟨wanted_plain rfl _, _, _, x_move rfl (fill_off rfl rfl), hR, Below.refl _ _, rfl⟩
        | 3, _ =>
          refine StepL.val rfl [1, 2] (by decide +kernel) ?_
          intro v wx hR hd
          have h1 : v 1 = _ := hd 1 (by simp)
          have h2 : v 2 = _ := hd 2 (by simp)
          exact ⟨wanted_plain rfl _, _, _, x_index rfl (hq.at_ rfl h1) (hq.at_ rfl h2) (r_index (e := 37) (size := 3) (by kernel_rfl) (by kernel_rfl) (by omega) (by omega) (by first | omega | simp)), hR, Below.refl _ _, rfl⟩
        | 4, _ =>
          refine StepL.val rfl [3] (by decide +kernel) ?_
          intro v wx hR hd
          have h3 : v 3 = _ := hd 3 (by simp)
          exact ⟨wanted_plain rfl _, _, _, x_field rfl (hq.at_ rfl h3) (r_field (off := 0) (by kernel_rfl)), hR, Below.refl _ _, rfl⟩
        | 5, _ =>
          refine StepL.val rfl [4] (by decide +kernel) ?_
          intro v wx hR hd
          have h4 : v 4 = _ := hd 4 (by simp)
          exact ⟨wanted_plain rfl _, _, _, x_load rfl (hq.at_ rfl h4) (r_load (by kernel_rfl) (pcell_below q0 hR)), hR, Below.refl _ _, rfl⟩
        | 6, _ =>
          refine StepL.val rfl [] (by decide +kernel) ?_
          intro v wx hR hd
          exact ⟨wanted_plain rfl _, _, _, x_move rfl (fill_off rfl rfl), hR, Below.refl _ _, rfl⟩
        | 7, _ =>
          refine StepL.val rfl [] (by decide +kernel) ?_
          intro v wx hR hd
          exact ⟨wanted_plain rfl _, _, _, x_move rfl (fill_off rfl rfl), hR, Below.refl _ _, rfl⟩
        | 8, _ =>
          refine StepL.val rfl [6, 7] (by decide +kernel) ?_
          intro v wx hR hd
          have h6 : v 6 = _ := hd 6 (by simp)
          have h7 : v 7 = _ := hd 7 (by simp)
          exact ⟨wanted_plain rfl _, _, _, x_index rfl (hq.at_ rfl h6) (hq.at_ rfl h7) (r_index (e := 37) (size := 3) (by kernel_rfl) (by kernel_rfl) (by omega) (by omega) (by first | omega | simp)), hR, Below.refl _ _, rfl⟩
        | 9, _ =>
          refine StepL.val rfl [8] (by decide +kernel) ?_
          intro v wx hR hd
          have h8 : v 8 = _ := hd 8 (by simp)
          exact ⟨wanted_plain rfl _, _, _, x_field rfl (hq.at_ rfl h8) (r_field (off := 1) (by kernel_rfl)), hR, Below.refl _ _, rfl⟩
        | 10, _ =>
          refine StepL.val rfl [9] (by decide +kernel) ?_
          intro v wx hR hd
          have h9 : v 9 = _ := hd 9 (by simp)
          exact ⟨wanted_plain rfl _, _, _, x_load rfl (hq.at_ rfl h9) (r_load (by kernel_rfl) (pcell_below q1 hR)), hR, Below.refl _ _, rfl⟩
        | 11, _ =>
          refine StepL.val rfl [] (by decide +kernel) ?_
          intro v wx hR hd
          exact ⟨wanted_plain rfl _, _, _, x_move rfl (fill_off rfl rfl), hR, Below.refl _ _, rfl⟩
        | 12, _ =>
          refine StepL.val rfl [] (by decide +kernel) ?_
          intro v wx hR hd
          exact ⟨wanted_plain rfl _, _, _, x_move rfl (fill_off rfl rfl), hR, Below.refl _ _, rfl⟩
        | 13, _ =>
          refine StepL.val rfl [11, 12] (by decide +kernel) ?_
          intro v wx hR hd
          have h11 : v 11 = _ := hd 11 (by simp)
          have h12 : v 12 = _ := hd 12 (by simp)
          exact ⟨wanted_plain rfl _, _, _, x_index rfl (hq.at_ rfl h11) (hq.at_ rfl h12) (r_index (e := 37) (size := 3) (by kernel_rfl) (by kernel_rfl) (by omega) (by omega) (by first | omega | simp)), hR, Below.refl _ _, rfl⟩
        | 14, _ =>
          refine StepL.val rfl [13] (by decide +kernel) ?_
          intro v wx hR hd
          have h13 : v 13 = _ := hd 13 (by simp)
          exact ⟨wanted_plain rfl _, _, _, x_field rfl (hq.at_ rfl h13) (r_field (off := 2) (by kernel_rfl)), hR, Below.refl _ _, rfl⟩
        | 15, _ =>
          refine StepL.val rfl [14] (by decide +kernel) ?_
          intro v wx hR hd
          have h14 : v 14 = _ := hd 14 (by simp)
          exact ⟨wanted_plain rfl _, _, _, x_load rfl (hq.at_ rfl h14) (r_load (by kernel_rfl) (pcell_below q2 hR)), hR, Below.refl _ _, rfl⟩
        | 16, _ =>
          refine StepL.val rfl [5, 10, 15] (by decide +kernel) ?_
          intro v wx hR hd
          have h5 : v 5 = _ := hd 5 (by simp)
          have h10 : v 10 = _ := hd 10 (by simp)
          have h15 : v 15 = _ := hd 15 (by simp)
          exact ⟨wanted_plain rfl _, _, _, x_build rfl (pairs_3 (hq.at_ rfl h5) (hq.at_ rfl h10) (hq.at_ rfl h15)) (rtk_build wx _ _ _), hR, Below.refl _ _, rfl⟩
        | 17, _ =>
          refine StepL.val rfl [16] (by decide +kernel) ?_
          intro v wx hR hd
          have h16 : v 16 = _ := hd 16 (by simp)
          have hb := pnew wx (.cells (tkC x).toArray 52)
          exact ⟨wanted_plain rfl _, xe_ex (x_slice rfl (pairs_1 (hq.at_ rfl h16)) (slice_rtk wx x)) ⟨hR.trans (hb.mono hR.size), hb, _, rfl, hR.size, Blk.new wx 52 (tkC x)⟩⟩
        | rz + 18, h => omega
      · intro v wx hR hV
        obtain ⟨p17, h17, hp17, hk17⟩ : oneR wr.heap.size x (v 17) wx := hV 17 (by omega)
        have h0 : v 0 = _ := hV 0 (by omega)
        simp only [fillR, Act.put, List.setIfInBounds_toArray, List.set_cons_zero, List.set_cons_succ, List.drop_succ_cons, List.drop_zero, h0, h17]
        have hu := ownsRow_only (S := []) HO.out (Only.of_below hR) (by simp)
        refine wpList_app (v := u3) (base := w.heap.size) (n := i) rfl rfl Try.underlying32 rtk_info rfl (by decide) (tkC x) rfl hu rfl rfl (fun _ => ⟨_, _, rfl, fun j u hu => by rw [Nat.zero_add]; exact (hk17.cell j).trans hu⟩) (tkC_one _) (by omega) (by decide) (Nat.le_trans HW.out.size hR.size) ?_
        intro v5 w4 k1 k2 k3
        rw [show rowK (ts.take i) ++ tkC x = rowK (ts.take (i + 1)) by rw [List.take_add_one, HX.out, Option.toList_some, rowK_snoc]] at k1
        have HF := Lib.hid (And.intro k1 ((HW.out.trans (hR.mono HW.out.size)).trans (k2.below (Nat.le_trans HW.out.size hR.size) (fun k hk => (hu.lt k (by simpa using hk)).1))))
        clear k1 k2 k3 hR hV h0 h17 hp17 hk17 hu q0 q1 q2
        go_wp2_with fail
        exact ⟨⟨i + 1, by omega, by go_num, Lib.hid HF.out.1, Lib.hid HF.out.2⟩, by simp [intOf]; omega⟩
    · obtain rfl : i = n := by omega
      have HE : Hid (ts.take i = ts) := Lib.hid (by rw [← HL.out, List.take_length])
      have hu := HO.out
      rw [HE.out, ← HL.out] at hu
      obtain ⟨B, d, rfl, h1⟩ := TIn.of_ownE hu
      rw [HL.out] at h1
      have HF := Lib.hid h1
      have hli := HL.out
      clear hu h1 HO
      go_wp2_with fail
      go_ret
      rw [hli]
      exact ⟨B, d, rfl, HF.out, HW.out⟩

/-! The chapter's example. -/
def knownB : By := [97, 108, 108, 111, 119, 32, 114, 101, 97, 100, 32, 111, 110, 32, 47, 97, 47, 42, 59]
def knownT : List Tk := [⟨0, [97, 108, 108, 111, 119], 1⟩, ⟨0, [114, 101, 97, 100], 1⟩, ⟨0, [111, 110], 1⟩, ⟨2, [47, 97, 47, 42], 1⟩, ⟨4, [59], 1⟩]
theorem known_lex : lexL 1 knownB = ⟨knownT, 1, 4⟩ := by kernel_rfl
theorem known_toks : toksE knownB = 0 := by
  unfold toksE
  rw [known_lex]
  rfl
set_option maxHeartbeats 4000000 in
theorem lknown_walk (w : World) : Calls Try.prog 7 #[] w fun e w' => e = .returned (.bool true) ∧ Below w.heap.size w w' := by
  have HT := Lib.hid (tokens_any w (baL knownB) (by rw [ba_size]; decide))
  go_enter Try.func7, Try.ntmps7
  go_wp2_with fail
  refine HT.out.mono ?_
  rintro e w1 ⟨hb, ⟨_, A, c, rfl, hT⟩ | ⟨hne, _⟩⟩
  · rw [bs_ba, known_lex] at hT ⊢
    have H1 := Lib.hid hb
    obtain ⟨g, o, x0, rfl, hg, hx0, k0, t0, n0⟩ := hT.row (i := 0) (by decide)
    obtain ⟨g', o', x3, he, _, hx3, k3, t3, n3⟩ := hT.row (i := 3) (by decide)
    cases he
    obtain ⟨g', o', x4, he, _, hx4, k4, t4, n4⟩ := hT.row (i := 4) (by decide)
    cases he
    cases hx0
    cases hx3
    cases hx4
    have hl : knownT.length = 5 := rfl
    rw [hl]
    clear hT hb hg
    rw [show o + 0 * 3 = o from by omega] at k0
    rw [show baL [47, 97, 47, 42] = ⟨#[47, 97, 47, 42]⟩ from rfl] at t3
    rw [show o + 3 * 3 = o + 9 from by omega] at k3 t3
    rw [show o + 4 * 3 = o + 12 from by omega] at k4
    rw [show o + 4 * 3 + 2 = o + 12 + 2 from by omega] at n4
    go_wp2_with fail
    go_ret
    exact ⟨rfl, H1.out⟩
  · exact absurd (by rw [bs_ba]; exact known_toks) hne
end Go.Proofs.Ytammomjnigalbaa
