/-
  Whether two lists of entries are the same, as the program tells it. Condition: the entries lie in memory.
-/
import Derived.Test.YtbckiembnakmhaaDoorM13
import Derived.Test.YtbckiembnakmhaaDoorM9
import Derived.Test.YtbckiembnakmhaaDoorM6
import Derived.Test.YtbckiembnakmhaaDoorM4
section
set_option linter.unusedSimpArgs false
set_option linter.unusedVariables false
set_option maxRecDepth 100000
namespace Go.Proofs.YtbckiembnakmhaaDoor
open Go.RowKit

instance : DecidableEq En := fun a b => decidable_of_iff _ (sameE_iff a b)
theorem blk_range {w : World} {g t : Nat} {cs : List Value} (h : Blk w g t cs) : w.rangeAt g 0 cs := fun j v hj => by rw [Nat.zero_add, h.cell]; exact hj
theorem en_ne {p q : List En} {i : Nat} {a b : En} (h1 : p[i]? = some a) (h2 : q[i]? = some b) (h : sameE a b = false) : decide (p = q) = false := by
  refine decide_eq_false fun e => ?_
  subst e
  rw [h1] at h2
  cases h2
  have := (sameE_iff a a).2 rfl
  rw [h] at this
  cases this
set_option maxHeartbeats 4000000 in
theorem equalf_any (w : World) (A : Option Addr) (n c : Nat) (xs : List Ev) (es : List En) (h : EIn w A n c xs es) (B : Option Addr) (m d : Nat) (ys : List Ev) (fs : List En) (k : EIn w B m d ys fs) :
    Calls Tryd.prog 26 #[.slice A n c, .slice B m d, .func (.func 27) #[] #[]] w fun e w' => e = .returned (.bool (decide (es = fs))) ∧ Below w.heap.size w w' := by
  have hbig : n ≤ 9223372036854775807 := by have := h.cap; have := h.big; omega
  have H := Lib.hid (And.intro h k)
  have HL := Lib.hid (And.intro h.elen k.elen)
  clear h k
  by_cases hnm : n = m
  · subst hnm
    go_enter Tryd.func26, Tryd.ntmps26
    go_wp2_with fail
    go_loopw [17] (fun iv wr => ∃ i : Nat, i ≤ n ∧ iv = .int .i64 i ∧ Hid (∀ (j : Nat) t u, j < i → es[j]? = some t → fs[j]? = some u → t = u) ∧ Hid (Below w.heap.size w wr)) (fun iv _ => n - (intOf iv).toNat)
    case atStart => exact ⟨0, by omega, rfl, Lib.hid (fun j t u h => absurd h (by omega)), Lib.hid (Below.refl _ _)⟩
    case round =>
      obtain ⟨i, hi, rfl, HK, HW⟩ := hrel
      by_cases hlt : i < n
      · obtain ⟨g, o, x, a, rfl, hg, hx, ha, hok, hcl⟩ := (H.out.1.below HW.out).row hlt
        obtain ⟨g2, o2, y, b, rfl, hg2, hy, hb, hok2, hcl2⟩ := (H.out.2.below HW.out).row hlt
        have HC := Lib.hid (And.intro hcl (And.intro hcl2 (And.intro hok hok2)))
        have HT := Lib.hid (And.intro ha hb)
        have HZ := Lib.hid (Blk.new wr 30 [.slice none 0 0, .int .i64 0, .int .i64 0, .slice none 0 0])
        have HG := Lib.hid (And.intro hg hg2)
        have b0 : (0 : Int) ≤ (i : Int) := by omega
        have b1 : (i : Int) < (n : Int) := by omega
        clear hx ha hok hcl hy hb hok2 hcl2 hg hg2
        go_wp2_with (first
          | (refine wpList_load_mid rfl 30 (.tmp 20) rfl g (o + i * 4) rfl _ _ HC.out.1 Tryd.underlying30 rfl infoEv ?_)
          | (refine wpList_store_blk rfl 30 (.tmp 8) (.tmp 21) rfl wr.heap.size 0 (evC x) rfl rfl HZ.out (by simp [evC]) infoEv (evC_one _) ?_; intro w2 hA hO; rw [over_whole (by simp [evC])] at hA; obtain ⟨d0, d1, d2, d3⟩ := four_ev hA; have H2 := Lib.hid (And.intro hA (And.intro ((pnew wr _).trans (hO.below (B := wr.heap.size) (by simp) (by simp))) (Blk.new w2 30 [.slice none 0 0, .int .i64 0, .int .i64 0, .slice none 0 0]))); clear hA hO)
          | (refine wpList_load_mid rfl 30 (.tmp 24) rfl g2 (o2 + i * 4) rfl _ _ (range_ev HC.out.2.1 H2.out.2.1) Tryd.underlying30 rfl infoEv ?_)
          | (refine wpList_store_blk rfl 30 (.tmp 9) (.tmp 25) rfl w2.heap.size 0 (evC y) rfl rfl H2.out.2.2 (by simp [evC]) infoEv (evC_one _) ?_; intro w3 hA hO; rw [over_whole (by simp [evC])] at hA; obtain ⟨f0, f1, f2, f3⟩ := four_ev hA; have H3 := Lib.hid (And.intro hA (And.intro (H2.out.2.1.trans (((pnew w2 _).trans (hO.below (B := w2.heap.size) (by simp) (by simp))).mono H2.out.2.1.size)) (H2.out.1.below (((pnew w2 _).trans (hO.below (B := w2.heap.size) (by simp) (by simp)))) H2.out.1.lt))); clear hA hO)
          | (refine wpList_load_mid rfl 30 (.tmp 8) rfl wr.heap.size 0 rfl _ _ (blk_range H3.out.2.2) Tryd.underlying30 rfl infoEv ?_)
          | (refine wpList_load_mid rfl 30 (.tmp 9) rfl w2.heap.size 0 rfl _ _ (blk_range H3.out.1) Tryd.underlying30 rfl infoEv ?_))
        refine (same12_any w3 x y a b (HC.out.2.2.1.below H3.out.2.1) (HC.out.2.2.2.below H3.out.2.1)).mono ?_
        rintro en w4 ⟨rfl, h4⟩
        have H4 := Lib.hid (HW.out.trans ((H3.out.2.1.trans (h4.mono H3.out.2.1.size)).mono HW.out.size))
        clear h4
        cases hs : sameE a b with
        | true =>
          have HE := Lib.hid ((sameE_iff a b).1 hs)
          clear hs
          go_wp2_with fail
          go_roundw
          case rel => exact ⟨i + 1, by omega, by go_num, Lib.hid (fun j x y hj hx hy => by
            by_cases h : j < i
            · exact HK.out j x y h hx hy
            · obtain rfl : j = i := by omega
              have h1 := HT.out.1
              have h2 := HT.out.2
              rw [hx] at h1
              rw [hy] at h2
              cases h1
              cases h2
              exact HE.out), H4⟩
          case measure => simp [intOf]; omega
        | false =>
          have HQ := Lib.hid (en_ne HT.out.1 HT.out.2 hs)
          clear hs
          go_wp2_with fail
          go_ret
          exact ⟨pret_bool (by rw [HQ.out]), H4.out⟩
      · obtain rfl : i = n := by omega
        have HQ : Hid (decide (es = fs) = true) := Lib.hid (decide_eq_true (en_ext (by rw [HL.out.1, HL.out.2]) fun j x y hx hy => HK.out j x y (by have := (List.getElem?_eq_some_iff.1 hx).1; have := HL.out.1; omega) hx hy))
        go_wp2_with fail
        go_ret
        exact ⟨pret_bool (by rw [HQ.out]), HW.out⟩
  · have HQ : Hid (decide (es = fs) = false) := Lib.hid (decide_eq_false (fun e => by have h1 := HL.out.1; have h2 := HL.out.2; rw [e] at h1; omega))
    have hd : ¬ (n : Int) = m := by omega
    go_enter Tryd.func26, Tryd.ntmps26
    go_wp2_with fail
    go_ret
    exact ⟨pret_bool (by rw [HQ.out]), Below.refl _ _⟩
set_option maxHeartbeats 1000000 in
theorem asame_any (w : World) (A : Option Addr) (n c : Nat) (xs : List Ev) (es : List En) (h : EIn w A n c xs es) (B : Option Addr) (m d : Nat) (ys : List Ev) (fs : List En) (k : EIn w B m d ys fs) :
    Calls Tryd.prog 16 #[.slice A n c, .slice B m d] w fun e w' => e = .returned (.bool (decide (es = fs))) ∧ Below w.heap.size w w' := by
  have H := Lib.hid (equalf_any w A n c xs es h B m d ys fs k)
  clear h k
  go_enter Tryd.func16, Tryd.ntmps16
  go_wp2_with fail
  refine H.out.mono ?_
  rintro e w1 ⟨rfl, h1⟩
  have H1 := Lib.hid h1
  clear h1
  go_wp2_with fail
  go_ret
  exact ⟨rfl, H1.out⟩
end Go.Proofs.YtbckiembnakmhaaDoor
end

/-
  The digest of each entry's bytes. Conditions: the entries lie in memory; the constants lie in their variable.
-/

section
set_option linter.unusedSimpArgs false
set_option linter.unusedVariables false
set_option maxRecDepth 100000
namespace Go.Proofs.YtbckiembnakmhaaDoor
open Go.RowKit

theorem slice_dg0 (W : World) : ∀ (sl : List Value), sl.length = 32 → (∀ u ∈ sl, u.oneCell' = true) → (Instr.buildSlice 37 1 #[(0, .agg sl.toArray)]).run Tryd.prog W = .ok (.slice (some ⟨W.heap.size, 0, none⟩) 1 1) (W.alloc (.cells sl.toArray 40))
  | [_, _, _, _, _, _, _, _, _, _, _, _, _, _, _, _, _, _, _, _, _, _, _, _, _, _, _, _, _, _, _, _], _, _ => by kernel_rfl
theorem slice_dg (W : World) (d : List B8) (h : d.length = 32) : (Instr.buildSlice 37 1 #[(0, .agg (Vb d).toArray)]).run Tryd.prog W = .ok (.slice (some ⟨W.heap.size, 0, none⟩) 1 1) (W.alloc (.cells (Vb d).toArray 40)) := slice_dg0 W (Vb d) (by rw [Vb_length, h]) (Vb_oneCell _)
theorem slice_bs (W : World) (A : Option Addr) (n c : Nat) : (Instr.buildSlice 60 1 #[(0, .slice A n c)]).run Tryd.prog W = .ok (.slice (some ⟨W.heap.size, 0, none⟩) 1 1) (W.alloc (.cells #[.slice A n c] 28)) := by kernel_rfl
theorem dg_info : (Tryd.prog.info? 40).map (fun i => (i.zero, i.size, i.bytes)) = some (some (.agg (List.replicate 32 (Value.int .u8 0)).toArray), 32, 32) := by kernel_rfl
/-- The digests' cells, one behind the other. -/
def rowD (ks : List B32) (es : List En) : List Value := es.flatMap fun e => Vb (sha ks e.data)
theorem rowD_next {ks : List B32} {es : List En} {i : Nat} {e : En} (h : es[i]? = some e) : rowD ks (es.take (i + 1)) = rowD ks (es.take i) ++ Vb (sha ks e.data) := by
  unfold rowD
  rw [List.take_add_one, h, Option.toList_some]
  simp
theorem txts_one {w : World} {q g : Nat} {A : Option Addr} {n c : Nat} {d : List B8} (hk : Blk w g 28 [.slice A n c]) (h : DIn w A n c d) (hq : w.heap.size ≤ q) : Txts w q (some ⟨g, 0, none⟩) 1 [d] := by
  refine ⟨rfl, fun _ => ⟨g, 0, rfl, by have := hk.lt; omega, fun i x hx => ?_⟩⟩
  have hi : i = 0 := by
    have := (List.getElem?_eq_some_iff.1 hx).1
    simp at this
    omega
  subst hi
  simp only [List.getElem?_cons_zero, Option.some.injEq] at hx
  subst hx
  exact ⟨A, n, c, (hk.cell 0).trans rfl, h.txt hq⟩
set_option maxHeartbeats 4000000 in
theorem digs_any (ks : List B32) (w : World) (hK : Roots ks w) (A : Option Addr) (n c : Nat) (xs : List Ev) (es : List En) (h : EIn w A n c xs es) (hn : n ≤ 100) :
    Calls Tryd.prog 12 #[.slice A n c] w fun e w' => ∃ v, e = .returned v ∧ w'.ownsRow w.heap.size 40 32 v n (rowD ks es) ∧ Below w.heap.size w w' := by
  have H := Lib.hid (And.intro h hK)
  have HL := Lib.hid h.elen
  have HE : Hid (es.take n = es) := Lib.hid (by rw [← h.elen, List.take_length])
  clear h hK
  go_enter Tryd.func12, Tryd.ntmps12
  go_wp2_with fail
  go_loopw [3, 8] (fun u3 iv wr => ∃ i : Nat, i ≤ n ∧ iv = .int .i64 i ∧ Hid (wr.ownsRow w.heap.size 40 32 u3 i (rowD ks (es.take i))) ∧ Hid (Below w.heap.size w wr)) (fun _ iv _ => n - (intOf iv).toNat)
  case atStart => exact ⟨0, by omega, rfl, Lib.hid (World.ownsRow_nil _ _ _ _), Lib.hid (Below.refl _ _)⟩
  case round =>
    obtain ⟨i, hi, rfl, HO, HW⟩ := hrel
    by_cases hlt : i < n
    · obtain ⟨g, o, x, e, rfl, hg, hx, he, hok, hcl⟩ := (H.out.1.below HW.out).row hlt
      have HC := Lib.hid hcl
      have HZ := Lib.hid (Blk.new wr 30 [.slice none 0 0, .int .i64 0, .int .i64 0, .slice none 0 0])
      have HD := Lib.hid (And.intro hok.data hok.small.data)
      have HX := Lib.hid he
      have b0 : (0 : Int) ≤ (i : Int) := by omega
      have b1 : (i : Int) < (n : Int) := by omega
      clear hx he hok hcl hg
      go_wp2_with (first
        | (refine wpList_load_mid rfl 30 (.tmp 10) rfl g (o + i * 4) rfl _ _ HC.out Tryd.underlying30 rfl infoEv ?_)
        | (refine wpList_store_blk rfl 30 (.tmp 5) (.tmp 11) rfl wr.heap.size 0 (evC x) rfl rfl HZ.out (by simp [evC]) infoEv (evC_one _) ?_; intro w2 hA hO; rw [over_whole (by simp [evC])] at hA; obtain ⟨d0, d1, d2, d3⟩ := four_ev hA; have H2 := Lib.hid ((pnew wr _).trans (hO.below (B := wr.heap.size) (by simp) (by simp))); clear hA hO))
      have hb2 := pnew w2 (.cells #[.slice x.DA x.dn x.dc] 28)
      have hBx : Below wr.heap.size wr (w2.alloc (.cells #[.slice x.DA x.dn x.dc] 28)) := H2.out.trans (hb2.mono H2.out.size)
      have hBw : Below w.heap.size w (w2.alloc (.cells #[.slice x.DA x.dn x.dc] 28)) := HW.out.trans (hBx.mono HW.out.size)
      refine (of_any ks _ (w2.alloc (.cells #[.slice x.DA x.dn x.dc] 28)).heap.size _ 1 1 [e.data] (H.out.2.below hBw H.out.2.pos) (txts_one (Blk.new w2 28 [.slice x.DA x.dn x.dc]) (HD.out.1.below hBx) (Nat.le_refl _)) (by omega) (by have := HD.out.2; simp; omega)).mono ?_
      rintro en w3 ⟨rfl, h3⟩
      rw [show [e.data].flatten = e.data by simp]
      have hB3 := hBw.trans (h3.mono hBw.size)
      have hu3 := ownsRow_only (S := []) (ownsRow_only (S := []) HO.out (Only.of_below hBx) (by simp)) (Only.of_below h3) (by simp)
      have hls := sha_length ks e.data
      have H3 := Lib.hid (And.intro hB3 (And.intro hu3 (Blk.new w3 40 (Vb (sha ks e.data)))))
      obtain ⟨dg, hdg⟩ : ∃ d, sha ks e.data = d := ⟨_, rfl⟩
      rw [hdg] at hls H3 ⊢
      have HG := Lib.hid hdg
      clear h3 hB3 hu3 hb2 hBx hBw hdg
      go_wp2_with (first
        | (refine wpList_run rfl (x_slice (qs := #[(0, .agg (Vb dg).toArray)]) (z := .slice (some ⟨w3.heap.size, 0, none⟩) 1 1) rfl (pairs_1 rfl) (slice_dg w3 dg hls)) ?_)
        | (refine wpList_app (v := u3) (base := w.heap.size) (n := i) (m := 1) (c := 1) (A := some ⟨w3.heap.size, 0, none⟩) (e := 40) (size := 32) rfl rfl Tryd.underlying37 dg_info (by kernel_rfl) (by decide) (Vb dg) rfl (ownsRow_only (S := []) H3.out.2.1 (Only.of_below (pnew w3 _)) (by simp)) rfl (by rw [Vb_length, hls]) (fun _ => ⟨_, _, rfl, fun j u hu => by rw [Nat.zero_add]; exact (H3.out.2.2.cell j).trans hu⟩) (Vb_oneCell _) (by omega) (by decide) (Nat.le_trans H3.out.1.size (pnew w3 (.cells (Vb dg).toArray 40)).size) ?_; intro v5 w4 k1 k2 k3))
      rw [← HG.out, ← rowD_next HX.out] at k1
      exact ⟨⟨i + 1, by omega, by go_num, Lib.hid k1, Lib.hid ((H3.out.1.trans ((pnew w3 _).mono H3.out.1.size)).trans (k2.below (Nat.le_trans H3.out.1.size (pnew w3 (.cells (Vb dg).toArray 40)).size) (fun b hb => (H3.out.2.1.lt b (by simpa using hb)).1)))⟩, by simp [intOf]; omega⟩
    · obtain rfl : i = n := by omega
      have hu := HO.out
      rw [HE.out] at hu
      have HU := Lib.hid hu
      clear hu HO
      go_wp2_with fail
      go_ret
      exact ⟨_, rfl, HU.out, HW.out⟩
end Go.Proofs.YtbckiembnakmhaaDoor
end
