/-
  The document's Recover: of a disk's bytes. Conditions: the bytes are a disk's; the journal has room for at most 15 writes.
-/
import Derived.Test.YtfkdpndcoegfpaaGreatDoorM12
import Derived.Test.YtfkdpndcoegfpaaGreatDoorM11
import Derived.Deep.DeepCutAuto
import Derived.Test.YtfkdpndcoegfpaaGreatDoorM2
import Derived.Test.YtfkdpndcoegfpaaGreatDoorM5
section
set_option maxRecDepth 100000
set_option linter.unusedSimpArgs false
set_option linter.unusedVariables false
namespace Go.Proofs.YtfkdpndcoegfpaaGreatDoor
open Go.RowKit
attribute [local go_sem ↓] exec_loadTbl

theorem results_tmp4 {fn : Func} {t u v x : Tmp} (h : fn.results = #[.tmp t, .tmp u, .tmp v, .tmp x]) (tmps : Array Value) (P : Program) (w : World) :
    (results fn tmps).run P w = .ok (.tuple #[tmps.getD t undef, tmps.getD u undef, tmps.getD v undef, tmps.getD x undef]) w := by
  simp [results, h]
/-- What Recover answers: the data, the number, whether something was redone, the error. -/
def rrecPost (A : Nat → Prop) (S : Nat → List B8) (d j : Nat) (w : World) (e : Ending) (w' : World) : Prop :=
  ((doneB Ks (S 0) = none ∧ e = .returned (.tuple #[.slice none 0 0, .int .i64 0, .bool false, .int .i64 5])) ∨
    (∃ n v, doneB Ks (S 0) = some n ∧ e = .returned (.tuple #[v, .int .i64 n, .bool false, .int .i64 0]) ∧ ¬ Full Ks S d j (n + 1) ∧ Bts (fun x => A x ∨ w.heap.size ≤ x) w' v (dataS S j d)) ∨
    (∃ n v, doneB Ks (S 0) = some n ∧ e = .returned (.tuple #[v, .int .i64 ((n : Int) + 1), .bool true, .int .i64 0]) ∧ Full Ks S d j (n + 1) ∧ fromB (sub (S 1) 0 8) = n + 1 ∧ Bts (fun x => A x ∨ w.heap.size ≤ x) w' v (layB (dataS S j d) (wrsTo S (cntOf S))))) ∧ Below w.heap.size w w'

theorem rsec_zero (w : World) (g o N c : Nat) (h1 : 64 ≤ N) (h2 : N ≤ c) (h3 : c ≤ 9223372036854775807) :
    Calls Tryz.prog 52 #[.slice (some ⟨g, o, none⟩) N c, .int .i64 0] w fun e w' => e = .returned (.slice (some ⟨g, o, none⟩) 64 c) ∧ w = w' := by
  have h := rsec_at w g o N c 0 0 c (by omega) h2 h3 rfl (by omega)
  rw [Nat.add_zero] at h
  exact h

set_option maxHeartbeats 4000000 in
theorem rrecover_any (w : World) (A : Nat → Prop) (g o N c n j : Nat) (xs : List B8) (hx : Bts A w (.slice (some ⟨g, o, none⟩) N c) xs) (hN : N = 64 * n) (hc : N ≤ c) (hcm : c ≤ 9223372036854775807) (hn : n ≤ 4096) (hj : j + 1 < n) (hj2 : 2 ≤ j) (hj30 : j ≤ 30) (hje : j % 2 = 0) :
    Calls Tryz.prog 12 #[.agg Tbl.toArray, .slice (some ⟨g, o, none⟩) N c, .int .i64 j] w (rrecPost A (fun k => sub xs (64 * k) 64) (n - j - 1) j w) := by
  obtain ⟨d, hd⟩ : ∃ d, n - j - 1 = d := ⟨_, rfl⟩
  rw [hd]
  have hxl := hx.cells.1
  have hdrop := data_drop (xs := xs) (j := j) (d := d) (by omega)
  have hS0 : sub xs 0 64 = (fun k => sub xs (64 * k) 64) 0 := rfl
  obtain ⟨S, hS⟩ : ∃ S : Nat → List B8, (fun k => sub xs (64 * k) 64) = S := ⟨_, rfl⟩
  rw [hS] at hdrop hS0 ⊢
  have hSk : ∀ k, S k = sub xs (64 * k) 64 := fun k => by rw [← hS]
  have hSl : ∀ k, k < n → (S k).length = 64 := fun k hk => by rw [hSk]; exact sub_length (by omega)
  have hb1 := new_below w (.cells Tbl.toArray 38)
  obtain ⟨q, hq⟩ : ∃ q, 64 * (1 + j) = q := ⟨_, rfl⟩
  have hqi : (64 : Int) * (1 + (j : Int)) = (q : Int) := by omega
  have hqN : q ≤ N := by omega
  have hcq : ¬ c = q := by omega
  obtain ⟨md, hmd⟩ : ∃ md, N - q = md := ⟨_, rfl⟩
  have hmdi : md = 64 * d := by omega
  obtain ⟨cd, hcd⟩ : ∃ cd, c - q = cd := ⟨_, rfl⟩
  have hcdb : md ≤ cd ∧ cd ≤ 9223372036854775807 := by omega
  have hdat := hx.sub_ (k := q) (n := md) (c' := cd) (by omega) hcdb.1 hcdb.2
  have hde : sub xs q md = dataS S j d := by
    rw [hdrop, hq]
    unfold sub
    rw [List.take_of_length_le (by rw [List.length_drop]; omega)]
  rw [hde] at hdat
  have hdl : (dataS S j d).length = md := hdat.cells.1
  have h0 := hx.sub_ (k := 0) (n := 64) (c' := c) (by omega) (by omega) hcm
  rw [hS0, Nat.add_zero] at h0
  have H0 := Lib.hid (And.intro (TblV.new w) (And.intro (hx.below hb1) (And.intro (h0.below hb1) (And.intro (hdat.below hb1) (And.intro hb1 (And.intro hSl (And.intro hS (And.intro hq (And.intro hd (And.intro hN hmdi))))))))))
  have HQ := Lib.hid (And.intro hmd hcd)
  have ht0 := TblV.new w
  clear hx hdrop hS0 hSk hSl hb1 hdat hde h0 hS hq hd hxl hmd hcd hdl
  have HE := Lib.hid (And.intro hN (And.intro hje hmdi))
  have hNb : 128 ≤ N := by omega
  clear hN hje hmdi
  obtain ⟨r, hr⟩ : ∃ r, doneB Ks (S 0) = r := ⟨_, rfl⟩
  have HRR := Lib.hid hr
  clear hr
  go_enter Tryz.func12, Tryz.ntmps12
  go_wp2_with fail
  go_region_held3 (fun w' => TblV w' (.pointer (some ⟨w.heap.size, 0, none⟩)))
    (first | exact ht3 | exact ht0.drew)
    (first
      | (go_at_call 52; refine (rsec_zero _ g o N c (by omega) hc hcm).mono ?_; rintro e w2 ⟨rfl, rfl⟩)
      | (go_at_call 51; refine (rnumber_any _ A g o c (S 0) (H0.out.2.2.1.below (drew_below _)) (by omega) hcm).mono ?_; rw [HRR.out]; rintro e w3 ⟨rfl, hW⟩; have ht3 := ht0.of_drew hW; have H3 := Lib.hid (below_drew (Below.refl _ _) hW); clear hW))
  cases r with
  | none =>
    have e1 : numOf none = -1 := rfl
    rw [e1] at *
    go_wp2_with fail
    refine bodyPost_ret (results_tmp4 rfl _ _ _) rfl ?_
    exact ⟨.inl ⟨HRR.out, rfl⟩, H0.out.2.2.2.2.1.trans (H3.out.mono (by simp))⟩
  | some dn =>
    have htop := doneB_le HRR.out
    have htb : dn ≤ 1152921504606846976 := by unfold top60 at htop; exact htop
    have e1 : numOf (some dn) = (dn : Int) := rfl
    rw [e1] at *
    clear e1 htop
    have H4 := Lib.hid (And.intro (H0.out.2.1.below H3.out) (And.intro (H0.out.2.2.2.1.below H3.out) (below_of H0.out.2.2.2.2.1 H3.out)))
    obtain ⟨num, hnum⟩ : ∃ num, dn + 1 = num := ⟨_, rfl⟩
    have hni : (dn : Int) + 1 = (num : Int) := by omega
    have HM := Lib.hid hnum
    have hnb : num ≤ 1152921504606846977 := by omega
    clear hnum
    go_wp2_with fail
    refine (rfound_any _ A g o N c n j num xs H4.out.1 HE.out.1 hc hcm hn hj hj2 hj30 HE.out.2.1 (by omega)).mono ?_
    rw [H0.out.2.2.2.2.2.2.1, H0.out.2.2.2.2.2.2.2.2.1]
    rintro e w4 ⟨hres, hW⟩
    have H5 := Lib.hid (And.intro (H4.out.2.1.below hW) (below_of H4.out.2.2 hW))
    clear hW
    have hff : num ≤ top60 → (FoundB Ks S d j num ↔ Full Ks S d j num) := fun h => found_full h (fun k hk => H0.out.2.2.2.2.2.1 k (by omega)) (by omega)
    have HFF := Lib.hid hff
    clear hff
    rcases hres with ⟨⟨v, rfl⟩, hno⟩ | ⟨v, rfl, hF, hor⟩
    · have HNF := Lib.hid (show ¬ Full Ks S d j (dn + 1) from fun h => by rw [HM.out] at h; exact hno ((HFF.out h.1).2 h))
      clear hno
      go_wp2_with fail
      refine bodyPost_ret (results_tmp4 rfl _ _ _) rfl ?_
      exact ⟨.inr (.inl ⟨dn, _, HRR.out, rfl, HNF.out, by rw [HQ.out.1, HQ.out.2]; exact H5.out.1.mono (fun _ h _ => .inl h)⟩), H5.out.2⟩
    · by_cases hlast : 1152921504606846976 ≤ dn
      · have e2 : decide ((1152921504606846976 : Int) ≤ (dn : Int)) = true := by simp; omega
        have HNF := Lib.hid (show ¬ Full Ks S d j (dn + 1) from fun h => by have := h.1; unfold top60 at this; omega)
        clear hlast hF hor
        go_wp2_with fail
        refine bodyPost_ret (results_tmp4 rfl _ _ _) rfl ?_
        exact ⟨.inr (.inl ⟨dn, _, HRR.out, rfl, HNF.out, by rw [HQ.out.1, HQ.out.2]; exact H5.out.1.mono (fun _ h _ => .inl h)⟩), H5.out.2⟩
      · have e2 : decide ((1152921504606846976 : Int) ≤ (dn : Int)) = false := by simp; omega
        have hfull := (HFF.out (by have := HM.out; unfold top60; omega)).1 hF
        have hnm := found_num hF (by omega)
        obtain ⟨P, cl, hform⟩ := hor.form
        subst hform
        have hok : ∀ p ∈ wrsTo S (cntOf S), 0 ≤ p.1 ∧ p.1 < (d : Nat) ∧ p.2.length = 64 := by
          intro p hp
          obtain ⟨k, hk, rfl⟩ := List.mem_map.1 hp
          have hik := List.mem_range.1 hk
          have h1 := hfull.2.2.1
          refine ⟨by unfold wAt; omega, ?_, H0.out.2.2.2.2.2.1 _ (by omega)⟩
          unfold wAt
          show ((fromB (sub (S (1 + 2 * k)) 16 4) : Nat) : Int) < _
          have := (hfull.2.2.2.1 k hik).2.2
          omega
        have HX := Lib.hid (And.intro hfull (And.intro hnm (And.intro hor hok)))
        have hd0 : 0 < d := by have := H0.out.2.2.2.2.2.2.2.2.1; omega
        have hd1 : d ≤ 4096 := by have := H0.out.2.2.2.2.2.2.2.2.1; omega
        clear hlast hF hfull hnm hor hok
        go_wp2_with fail
        refine (rlay_any _ A (fun g => True ∨ w3.heap.size ≤ g) _ _ _ d (dataS S j d) P (cntOf S) cl (wrsTo S (cntOf S)) (by rw [HQ.out.1, HQ.out.2]; exact H5.out.1) HX.out.2.2.1.toRfs (by rw [HQ.out.1]; exact HE.out.2.2) hd0 hd1 HX.out.2.2.2).mono ?_
        rintro e w5 ⟨v, rfl, hv, hW⟩
        have H6 := Lib.hid (And.intro hv (below_of H5.out.2 hW))
        clear hv hW
        go_wp2_with fail
        refine bodyPost_ret (results_tmp4 rfl _ _ _) rfl ?_
        refine ⟨.inr (.inr ⟨dn, v, HRR.out, ?_, by rw [HM.out]; exact HX.out.1, by rw [HM.out]; exact HX.out.2.1, ?_⟩), H6.out.2⟩
        · rw [show (dn : Int) + 1 = (num : Int) by have := HM.out; omega]
          rfl
        · have hl : (layB (dataS S j d) (wrsTo S (cntOf S))).length = N - q := by rw [layB_length]; exact (show Bts A w3 (.slice (some ⟨g, o + q, none⟩) (N - q) (c - q)) (dataS S j d) by rw [HQ.out.1, HQ.out.2]; exact H4.out.2.1).cells.1
          exact (bts_len hl H6.out.1).mono (fun _ h _ => .inr (Nat.le_trans H5.out.2.size h))
end Go.Proofs.YtfkdpndcoegfpaaGreatDoor
end

/-
  mend, where the head isn't right, and where the journal begins with the next number. Conditions: the disk has power that never goes; the journal has room for at most 15 writes.
-/

section
set_option maxRecDepth 100000
set_option linter.unusedSimpArgs false
set_option linter.unusedVariables false
namespace Go.Proofs.YtfkdpndcoegfpaaGreatDoor
open Go.RowKit

set_option maxHeartbeats 1600000 in
theorem mend_bad (ks : List B32) (B : Nat) (w : World) (D L G n j : Nat) (S : Nat → List B8) (cw cf done : Nat) (x : Int × Int) (red : Bool) (hd : Idle B D L n S cw cf w) (hB : B ≤ w.heap.size) (hK : Roots ks w) (hG : Blk w G 126 (logCells D j x done red))
    (hj : j + 1 < n) (hdn : doneB ks (S 0) = none) :
    Calls Tryz.prog 96 #[.pointer (some ⟨G, 0, none⟩)] w (mendPost B D L G n j S cw cf x done red 5 w) := by
  have hnb := hd.bound
  have hpos := hK.pos
  obtain ⟨g0, g1, g5, g6⟩ := log_cells hG
  have H := Lib.hid (And.intro hd (And.intro hG (And.intro hK hdn)))
  clear hd hG hK hdn
  go_enter Tryz.func96, Tryz.ntmps96
  go_wp2_with (first
    | (go_at_call 64; refine (read_calm H.out.1.calm (k := 0) (by omega)).mono ?_; rintro e w1 ⟨v, rfl, hv, hW⟩; have hs64 := H.out.1.sec (k := 0) (by omega); obtain ⟨Q, k3, rfl, hk64, hk3⟩ := hv.form; rw [hs64] at hk64 hv ⊢; obtain ⟨g, o, rfl, _, _, _⟩ := hv.cells.2 (by omega); have H1 := Lib.hid (And.intro hv hW); clear hW hv))
  refine (doneBy_any ks _ _ g o k3 (S 0) (H.out.2.2.1.below H1.out.2 hpos) H1.out.1 hk64 hk3).mono ?_
  rw [H.out.2.2.2]
  rintro e w2 ⟨rfl, hW⟩
  have H2 := Lib.hid (below_of H1.out.2 hW)
  clear hW
  go_wp2_with fail
  go_ret
  exact ⟨rfl, H.out.1.below H2.out, H.out.2.1.below H2.out H.out.2.1.lt, Stp.of_below hB H2.out⟩

/-- The sectors behind a transaction that is done by recovering. -/
def redoneS (ks : List B32) (j num : Nat) (S : Nat → List B8) : Nat → List B8 := upd (layS S (dataOf j (wrsTo S (cntOf S)))) 0 (headB ks num)

set_option maxHeartbeats 4000000 in
theorem mend_begun (ks : List B32) (B : Nat) (w : World) (D L G n j : Nat) (S : Nat → List B8) (cw cf done done' : Nat) (x : Int × Int) (red : Bool) (hd : Idle B D L n S cw cf w) (hB : B ≤ w.heap.size) (hBG : B ≤ G) (hK : Roots ks w) (hKB : 1 < B) (hG : Blk w G 126 (logCells D j x done red))
    (hj : j + 1 < n) (hj1 : 2 ≤ j) (hj30 : j ≤ 30) (hdn : doneB ks (S 0) = some done') (hno : fromB (sub (S 1) 0 8) = done' + 1) (hcw : cw ≤ 500000) (hcf : cf ≤ 500000) :
    Calls Tryz.prog 96 #[.pointer (some ⟨G, 0, none⟩)] w fun e w' => (Full ks S (n - j - 1) j (done' + 1) ∧ mendPost B D L G n j (redoneS ks j (done' + 1) S) (cw + cntOf S + 1) (cf + 2) x (done' + 1) true 0 w e w') ∨
      (¬ Full ks S (n - j - 1) j (done' + 1) ∧ mendPost B D L G n j (upd S 1 zeros64) (cw + 1) (cf + 1) x done' red 0 w e w') := by
  have hnb := hd.bound
  have hpos := hK.pos
  have htop : done' ≤ top60 := doneB_le hdn
  have hdb : done' + 1 ≤ 9223372036854775807 := by unfold top60 at htop; omega
  clear htop
  have hlt := hd.lt
  have hGl := hG.lt
  have hDG : D ≠ G := by
    rintro rfl
    obtain ⟨s, hs, _⟩ := hd
    exact absurd (hG.same hs.disk).1 (by decide)
  have hLG : L ≠ G := by
    rintro rfl
    obtain ⟨s, hs, _⟩ := hd
    exact absurd (hG.same hs.laid).1 (by decide)
  obtain ⟨g0, g1, g5, g6⟩ := log_cells hG
  have H := Lib.hid (And.intro hd (And.intro hG (And.intro hK (And.intro hdn (And.intro hno (And.intro hDG hLG))))))
  clear hd hG hK hdn hno hDG hLG
  go_enter Tryz.func96, Tryz.ntmps96
  go_wp2_with (first
    | (go_at_call 64; refine (read_calm H.out.1.calm (k := 0) (by omega)).mono ?_; rintro e w1 ⟨v, rfl, hv, hW⟩; have hs64 := H.out.1.sec (k := 0) (by omega); obtain ⟨Q, k3, rfl, hk64, hk3⟩ := hv.form; rw [hs64] at hk64 hv ⊢; obtain ⟨g, o, rfl, _, _, _⟩ := hv.cells.2 (by omega); have H1 := Lib.hid (And.intro hv hW); clear hW hv))
  refine (doneBy_any ks _ _ g o k3 (S 0) (H.out.2.2.1.below H1.out.2 hpos) H1.out.1 hk64 hk3).mono ?_
  rw [H.out.2.2.2.1]
  rintro e w2 ⟨rfl, hW⟩
  have hb2 := below_of H1.out.2 hW
  have hG2 := H.out.2.1.below hb2 hGl
  have hset := stp_set (B := B) (G := G) (w := w2) (o := 5) (Nat.le_trans hB hb2.size) hBG (.int .i64 (done' : Int))
  have hG3 : Blk (w2.setCell ⟨G, 5, none⟩ (.int .i64 (done' : Int))) G 126 (logCells D j x done' red) := hG2.set_ 5 (.int .i64 (done' : Int))
  have hd3 := (H.out.1.below hb2).stp hset (by simpa using H.out.2.2.2.2.2.1) (by simpa using H.out.2.2.2.2.2.2)
  obtain ⟨g0, g1, g5, g6⟩ := log_cells hG2
  have gf := hG2.frozen 5
  obtain ⟨m0, m1, m5, m6⟩ := log_cells hG3
  have H2 := Lib.hid (And.intro hd3 (And.intro hG3 ((Stp.of_below (X := [D, L, G]) hB hb2).trans (hset.mono (by intro k hk _; simp at hk ⊢; simp [hk])))))
  clear hW hb2 hG2 hset hG3 hd3
  have hlt2 := H2.out.1.lt
  have hs2 := H2.out.2.2.size
  go_wp2_with fail
  refine (begun_any ks B _ D L n j S cw cf (done' + 1) H2.out.1 (H.out.2.2.1.below (H2.out.2.2.below) hKB) hj (by omega) hj30 hdb H.out.2.2.2.2.1).mono ?_
  rintro e w4 ⟨hres, hW⟩
  have hG4 := H2.out.2.1.below hW H2.out.2.1.lt
  have hst4 := H2.out.2.2.trans (Stp.of_below (Nat.le_trans hB hs2) hW)
  rcases hres with ⟨rfl, hfull⟩ | ⟨vw, rfl, hfull, how⟩
  · have hb5 := new_below w4 (.cells #[.int .i64 0, .slice none 0 0] 138)
    have hG5 := hG4.below hb5 hG4.lt
    obtain ⟨g0, g1, g5, g6⟩ := log_cells hG5
    have H5 := Lib.hid (And.intro ((H2.out.1.below hW).below hb5) (And.intro hG5 (And.intro (hst4.trans (Stp.of_below (Nat.le_trans hB hst4.size) hb5)) hfull)))
    clear hW hG4 hst4 hb5 hG5 hfull m0 m1 m5 m6
    go_wp2_with fail
    generalize w4.alloc (.cells #[.int .i64 0, .slice none 0 0] 138) = w5 at H5 g0 g1 g5 g6 ⊢
    have hs5 := H5.out.2.2.1.size
    have hlt5 := H5.out.1.lt
    have hG5l := H5.out.2.1.lt
    go_region_held3 (fun w' => w'.cell? ⟨G, 0, none⟩ = some (.pointer (some ⟨D, 0, none⟩)) ∧ w'.cell? ⟨G, 1, none⟩ = some (.int .i64 (j : Int)))
      (first | exact ⟨x0, x1⟩ | exact ⟨cell_below y0 (new_below _ _), cell_below y1 (new_below _ _)⟩ | exact ⟨y0, y1⟩ | exact ⟨e0, e1⟩ | exact ⟨g0, g1⟩)
      (first
        | (go_at_call 60; refine (jlay_any B _ D L n j S cw cf (fun g => w5.heap.size ≤ g) _ 1 1 [(1, zeros64)] (H7.out.1.below (new_below w7 (.cells #[.int .i64 1, .slice (some ⟨w6.heap.size, 0, none⟩) 64 64] 133))) (by have := (new_below w7 (.cells #[.int .i64 1, .slice (some ⟨w6.heap.size, 0, none⟩) 64 64] 133)).size; have := H7.out.2.2.2.size; omega) (Wrs.one (Blk.new w7 133 [.int .i64 1, .slice (some ⟨w6.heap.size, 0, none⟩) 64 64]) H7.out.2.2.2.size ((Bts.whole H7.out.2.2.1 (.inl rfl) H6.out.2.2.size (by simp [zeros64]) (by omega)).below (new_below _ _))) (fun g hg h => by simp at h; omega) (fun p hp => by simp only [List.mem_singleton] at hp; subst hp; exact ⟨by decide, by show (1 : Int) < n; omega, by simp [zeros64]⟩) (by omega) (by omega)).mono ?_; rintro e w8 ⟨rfl, h1, h2⟩; have hbb := new_below w7 (.cells #[.int .i64 1, .slice (some ⟨w6.heap.size, 0, none⟩) 64 64] 133); have hG8 := h2.keep _ _ _ (by decide) (by simp only [List.mem_cons, List.not_mem_nil, or_false, not_or]; exact ⟨fun h => H.out.2.2.2.2.2.1 h.symm, fun h => H.out.2.2.2.2.2.2 h.symm⟩) (H7.out.2.1.below hbb H7.out.2.1.lt); obtain ⟨x0, x1, _, _⟩ := log_cells hG8; have H8 := Lib.hid (And.intro h1 (And.intro hG8 (((Stp.of_below (X := [D, L]) (by omega) (below_of H7.out.2.2.2 hbb))).trans h2))); clear h1 h2 hG8 hbb)
        | (go_at_call 118; refine (sector_none _).mono ?_; rintro e w7 ⟨rfl, hB7, hW⟩; have y0 := cell_below e0 hW; have y1 := cell_below e1 hW; have H7 := Lib.hid (And.intro (H6.out.1.below hW) (And.intro (H6.out.2.1.below hW H6.out.2.1.lt) (And.intro (show Blk w7 w6.heap.size 5 (Vb zeros64) from hB7) (below_of H6.out.2.2 hW)))); clear hB7 hW)
        | (go_at_call 108; refine (noteAt_any (D := D) (j := j) 0 (by omega)).mono ?_; rintro e w6 ⟨rfl, hW⟩; have e0 := cell_drew g0 hW; have e1 := cell_drew g1 hW; have H6 := Lib.hid (And.intro (idle_drew H5.out.1 hW) (And.intro (blk_drew H5.out.2.1 hW) (below_drew (Below.refl _ _) hW))); clear hW))
    go_wp2_with fail
    go_ret
    refine .inr ⟨H5.out.2.2.2, rfl, H8.out.1, H8.out.2.1, H5.out.2.2.1.trans (H8.out.2.2.mono (by intro k hk _; simp at hk ⊢; rcases hk with h | h <;> simp [h]))⟩
  · obtain ⟨Pw, cw1, rfl⟩ := how.form
    have hb5 := new_below w4 (.cells #[.int .i64 ((done' : Int) + 1), .slice Pw (cntOf S) cw1] 138)
    have ⟨t0, t1⟩ := blk_pair (Blk.new w4 138 [.int .i64 ((done' : Int) + 1), .slice Pw (cntOf S) cw1])
    have ht5 := Blk.new w4 138 [.int .i64 ((done' : Int) + 1), .slice Pw (cntOf S) cw1]
    have hG5 := hG4.below hb5 hG4.lt
    obtain ⟨g0, g1, g5, g6⟩ := log_cells hG5
    have gf6 := hG5.frozen 6
    have hd5 := (H2.out.1.below hW).below hb5
    have hst5 := hst4.trans (Stp.of_below (Nat.le_trans hB hst4.size) hb5)
    have hset := stp_set (B := B) (G := G) (w := w4.alloc (.cells #[.int .i64 ((done' : Int) + 1), .slice Pw (cntOf S) cw1] 138)) (o := 6) (Nat.le_trans hB hst5.size) hBG (.bool true)
    have hG6 : Blk ((w4.alloc (.cells #[.int .i64 ((done' : Int) + 1), .slice Pw (cntOf S) cw1] 138)).setCell ⟨G, 6, none⟩ (.bool true)) G 126 (logCells D j x done' true) := hG5.set_ 6 (.bool true)
    have hd6 := hd5.stp hset (by simpa using H.out.2.2.2.2.2.1) (by simpa using H.out.2.2.2.2.2.2)
    have ht6 := hset.keep _ _ _ (by decide) (by have := hG4.lt; simp; omega) ht5
    have ⟨q0, q1⟩ := blk_pair ht6
    have hGs : G < w2.heap.size := by
      have h1 := H.out.2.1.lt
      have h2 : w.heap.size ≤ w2.heap.size := by simpa using hs2
      omega
    have hok : ∀ p ∈ wrsTo S (cntOf S), 0 ≤ p.1 ∧ p.1 < (n - j - 1 : Nat) ∧ p.2.length = 64 := by
      intro p hp
      obtain ⟨i, hi, rfl⟩ := List.mem_map.1 hp
      have hik := List.mem_range.1 hi
      have h3 := (hfull.2.2.2.1 i hik).2.2
      have h4 := hfull.2.2.1
      refine ⟨by unfold wAt; omega, by unfold wAt; show ((fromB (sub (S (1 + 2 * i)) 16 4) : Nat) : Int) < _; omega, ?_⟩
      exact H2.out.1.sec (by omega)
    have hcnt : cntOf S ≤ 15 := by have := hfull.2.2.1; omega
    have hws := (((how.wrs (fun g hg => hg)).below hb5).stp hset (fun g hg => by simp at hg ⊢; omega)).mono (A' := fun g => w2.heap.size ≤ g) (fun g hg _ => by simpa using hg)
    have H6 := Lib.hid (And.intro hd6 (And.intro hG6 (And.intro (hst5.trans (hset.mono (Y := [D, L, G]) (by intro k hk _; simp at hk ⊢; simp [hk]))) (And.intro hws (And.intro hok hfull)))))
    clear hW hG4 hst4 hb5 hG5 hd5 hst5 hset hG6 hd6 ht5 ht6 hws hok hfull how m0 m1 m5 m6
    have hs6 := H6.out.2.2.1.size
    go_wp2_with fail
    refine (finish_any ks B _ D L G n j S cw cf (fun g => w2.heap.size ≤ g) Pw (cntOf S) cw1 (done' + 1) done' x true (wrsTo S (cntOf S)) H6.out.1 (Nat.le_trans hB hs6) (H.out.2.2.1.below H6.out.2.2.1.below hKB) H6.out.2.1 hKB hBG H6.out.2.2.2.1 (fun g hg h => by simp at h hlt2; omega) hj H6.out.2.2.2.2.1 (by omega) hdb (by omega) (by omega)).mono ?_
    rintro e w7 ⟨rfl, hI, hG7, hS⟩
    have H7 := Lib.hid (And.intro hI (And.intro hG7 hS))
    clear hI hG7 hS
    go_wp2_with fail
    go_ret
    exact .inl ⟨H6.out.2.2.2.2.2, rfl, H7.out.1, H7.out.2.1, H6.out.2.2.1.trans H7.out.2.2⟩
end Go.Proofs.YtfkdpndcoegfpaaGreatDoor
end

/-
  Open, of any disk at rest: the head isn't right; the journal's transaction is whole; it isn't. Conditions: the disk has power that never goes; the journal has room for at most 15 writes.
-/

section
set_option maxRecDepth 100000
set_option linter.unusedSimpArgs false
set_option linter.unusedVariables false
namespace Go.Proofs.YtfkdpndcoegfpaaGreatDoor
open Go.RowKit

set_option maxHeartbeats 1600000 in
theorem open_err (B : Nat) (w : World) (D L n j : Nat) (S S' : Nat → List B8) (cw cf cw' cf' done : Nat) (red : Bool) (hd : Idle B D L n S cw cf w) (hB : B ≤ w.heap.size) (hj : j + 1 < n) (h2 : 2 ≤ j) (h3 : j ≤ 1024) (h4 : j % 2 = 0)
    (hm : ∀ w1, Stp B [] w w1 → w.heap.size ≤ w1.heap.size → Blk w1 w.heap.size 126 (logCells D j (0, 1) 0 false) → Calls Tryz.prog 96 #[.pointer (some ⟨w.heap.size, 0, none⟩)] w1 (mendPost B D L w.heap.size n j S' cw' cf' (0, 1) done red 5 w1)) :
    Calls Tryz.prog 11 #[.pointer (some ⟨D, 0, none⟩), .int .i64 j] w fun e w' => e = .returned (.tuple #[.pointer none, .int .i64 5]) ∧ Idle B D L n S' cw' cf' w' ∧ Stp B [D, L] w w' := by
  have hnb := hd.bound
  have hlt := hd.lt
  have b1 := new_below w (.cells #[.pointer (some ⟨D, 0, none⟩), .int .i64 (j : Int), .int .u32 0, .int .i32 0, .int .u32 0, .int .i64 0, .bool false] 126)
  have k1 : Blk (w.alloc (.cells #[.pointer (some ⟨D, 0, none⟩), .int .i64 (j : Int), .int .u32 0, .int .i32 0, .int .u32 0, .int .i64 0, .bool false] 126)) w.heap.size 126 (logCells D j (0, 0) 0 false) := Blk.new w 126 [.pointer (some ⟨D, 0, none⟩), .int .i64 (j : Int), .int .u32 0, .int .i32 0, .int .u32 0, .int .i64 0, .bool false]
  obtain ⟨g0, g1, g5, g6⟩ := log_cells k1
  have H := Lib.hid (And.intro (hd.below b1) (And.intro k1 (And.intro b1 hm)))
  clear hd b1 k1 hm
  go_enter Tryz.func11, Tryz.ntmps11
  go_wp2_with (first
    | (go_at_call 44; refine (on_idle H.out.1.calm).mono ?_; rintro e w' ⟨rfl, rfl⟩)
    | (go_at_call 49; refine (fits_any H.out.1.calm hj hnb.2 h2 h3 h4).mono ?_; rintro e w1 ⟨rfl, hb⟩; have HB := Lib.hid hb; clear hb))
  have hs1 := HB.out.size
  have hs0 := H.out.2.2.1.size
  have hsz : (w.alloc (.cells #[.pointer (some ⟨D, 0, none⟩), .int .i64 (j : Int), .int .u32 0, .int .i32 0, .int .u32 0, .int .i64 0, .bool false] 126)).heap.size = w.heap.size + 1 := by simp
  have hst : Stp B [] w w1 := Stp.of_below hB (below_of H.out.2.2.1 HB.out)
  refine (recovered_any (B := B) (D := D) (L := L) (G := w.heap.size) (n := n) (j := j) (S := S') (cw := cw') (cf := cf') (done := done) (red := red) (r := 5) (H.out.2.1.below HB.out H.out.2.1.lt) (by omega) (by omega) (by omega) hB (by omega) (by omega) ?_).mono ?_
  · intro w2 hs hG
    refine H.out.2.2.2 w2 ((hst.mono (Y := [w.heap.size]) (by simp)).trans hs |>.mono (by intro k hk hl; simp at hk; omega)) ?_ hG
    have := hs.size
    omega
  rintro e w2 ⟨rfl, hI, hG, hS⟩
  have H2 := Lib.hid (And.intro hI (And.intro hG (((hst.mono (Y := [D, L, w.heap.size]) (by simp)).trans hS).mono (Y := [D, L]) (by intro k hk hl; simp at hk ⊢; omega))))
  clear hI hG hS hst
  go_wp2_with fail
  go_ret2
  exact ⟨rfl, H2.out.1, H2.out.2.2⟩


section
variable {B : Nat} {w : World} {D L n j : Nat} {S : Nat → List B8} {cw cf done : Nat}
theorem open_bad (ks : List B32) (hd : Idle B D L n S cw cf w) (hB : B ≤ w.heap.size) (hK : Roots ks w) (hKB : 1 < B) (hj : j + 1 < n) (h2 : 2 ≤ j) (h3 : j ≤ 1024) (h4 : j % 2 = 0) (hdn : doneB ks (S 0) = none) :
    Calls Tryz.prog 11 #[.pointer (some ⟨D, 0, none⟩), .int .i64 j] w fun e w' => e = .returned (.tuple #[.pointer none, .int .i64 5]) ∧ Idle B D L n S cw cf w' ∧ Stp B [D, L] w w' :=
  open_err B w D L n j S S cw cf cw cf 0 false hd hB hj h2 h3 h4 fun w1 hs hw hG =>
    mend_bad ks B w1 D L w.heap.size n j S cw cf 0 (0, 1) false (hd.stp hs (by simp) (by simp)) (by omega) (hK.below hs.below hKB) hG hj hdn
theorem open_redo (ks : List B32) (hd : Idle B D L n S cw cf w) (hB : B ≤ w.heap.size) (hK : Roots ks w) (hKB : 1 < B) (hj : j + 1 < n) (h2 : 2 ≤ j) (h3 : j ≤ 30) (h4 : j % 2 = 0) (hdn : doneB ks (S 0) = some done) (hno : fromB (sub (S 1) 0 8) = done + 1) (hcw : cw ≤ 500000) (hcf : cf ≤ 500000)
    (hF : Full ks S (n - j - 1) j (done + 1)) :
    Calls Tryz.prog 11 #[.pointer (some ⟨D, 0, none⟩), .int .i64 j] w (openPost B D L n j (redoneS ks j (done + 1) S) (cw + cntOf S + 1) (cf + 2) (done + 1) true w) :=
  open_any B w D L n j S _ cw cf _ _ (done + 1) true hd hB hj h2 (by omega) h4 fun w1 hs hw hG =>
    (mend_begun ks B w1 D L w.heap.size n j S cw cf 0 done (0, 1) false (hd.stp hs (by simp) (by simp)) (by omega) hB (hK.below hs.below hKB) hKB hG hj h2 h3 hdn hno hcw hcf).mono fun e w' h => by
      rcases h with ⟨_, h⟩ | ⟨h, _⟩
      · exact h
      · exact absurd hF h
theorem open_end (ks : List B32) (hd : Idle B D L n S cw cf w) (hB : B ≤ w.heap.size) (hK : Roots ks w) (hKB : 1 < B) (hj : j + 1 < n) (h2 : 2 ≤ j) (h3 : j ≤ 30) (h4 : j % 2 = 0) (hdn : doneB ks (S 0) = some done) (hno : fromB (sub (S 1) 0 8) = done + 1) (hcw : cw ≤ 500000) (hcf : cf ≤ 500000)
    (hF : ¬ Full ks S (n - j - 1) j (done + 1)) :
    Calls Tryz.prog 11 #[.pointer (some ⟨D, 0, none⟩), .int .i64 j] w (openPost B D L n j (upd S 1 zeros64) (cw + 1) (cf + 1) done false w) :=
  open_any B w D L n j S _ cw cf _ _ done false hd hB hj h2 (by omega) h4 fun w1 hs hw hG =>
    (mend_begun ks B w1 D L w.heap.size n j S cw cf 0 done (0, 1) false (hd.stp hs (by simp) (by simp)) (by omega) hB (hK.below hs.below hKB) hKB hG hj h2 h3 hdn hno hcw hcf).mono fun e w' h => by
      rcases h with ⟨h, _⟩ | ⟨_, h⟩
      · exact absurd h hF
      · exact h
end
end Go.Proofs.YtfkdpndcoegfpaaGreatDoor
end

/-
  Open of any disk at rest, as the document tells it; and what Open finds behind it. Conditions: the disk has power that never goes; the journal has room for at most 15 writes.
-/

section
set_option maxRecDepth 100000
set_option linter.unusedSimpArgs false
set_option linter.unusedVariables false
namespace Go.Proofs.YtfkdpndcoegfpaaGreatDoor
open Go.RowKit

theorem dataS_on {S S' : Nat → List B8} {j d : Nat} (h : ∀ k, 1 + j ≤ k → S' k = S k) : dataS S' j d = dataS S j d := by
  unfold dataS
  congr 1
  apply List.map_congr_left
  intro k _
  exact h _ (by omega)
theorem full_first {ks : List B32} {S : Nat → List B8} {d j num : Nat} (h : Full ks S d j num) : fromB (sub (S 1) 0 8) = num := by
  have := (h.2.2.2.1 0 (by have := h.2.1; omega)).1
  simpa using this
/-- What Open leaves of a disk whose head is right. -/
def Left (S S' : Nat → List B8) (d j dn done : Nat) (red : Bool) : Prop :=
  ((Full Ks S d j (dn + 1) ∧ done = dn + 1 ∧ red = true ∧ dataS S' j d = layB (dataS S j d) (wrsTo S (cntOf S))) ∨ (¬ Full Ks S d j (dn + 1) ∧ done = dn ∧ red = false ∧ dataS S' j d = dataS S j d)) ∧
    doneB Ks (S' 0) = some done ∧ fromB (sub (S' 1) 0 8) ≠ done + 1
theorem left_none {S : Nat → List B8} {d j dn : Nat} (h0 : doneB Ks (S 0) = some dn) (h : fromB (sub (S 1) 0 8) ≠ dn + 1) : Left S S d j dn dn false :=
  ⟨.inr ⟨fun hf => h (full_first hf), rfl, rfl, rfl⟩, h0, h⟩
theorem left_end {S : Nat → List B8} {d j dn : Nat} (hj : 2 ≤ j) (h0 : doneB Ks (S 0) = some dn) (hf : ¬ Full Ks S d j (dn + 1)) : Left S (upd S 1 zeros64) d j dn dn false := by
  refine ⟨.inr ⟨hf, rfl, rfl, dataS_on fun k hk => ?_⟩, ?_, ?_⟩
  · unfold upd
    rw [if_neg (by omega)]
  · unfold upd
    rw [if_neg (by omega)]
    exact h0
  · unfold upd
    rw [if_pos rfl, sub_zeros]
    omega
theorem left_redo {S : Nat → List B8} {d j dn : Nat} (hj : 2 ≤ j) (hf : Full Ks S d j (dn + 1)) (hl : ∀ k, k ≤ j + d → (S k).length = 64) : Left S (redoneS Ks j (dn + 1) S) d j dn (dn + 1) true := by
  have hok : ∀ p ∈ wrsTo S (cntOf S), 0 ≤ p.1 ∧ p.1 < (d : Nat) ∧ p.2.length = 64 := by
    intro p hp
    obtain ⟨k, hk, rfl⟩ := List.mem_map.1 hp
    have hik := List.mem_range.1 hk
    have h1 := hf.2.2.1
    refine ⟨by unfold wAt; omega, ?_, hl _ (by omega)⟩
    unfold wAt
    show ((fromB (sub (S (1 + 2 * k)) 16 4) : Nat) : Int) < _
    have := (hf.2.2.2.1 k hik).2.2
    omega
  refine ⟨.inl ⟨hf, rfl, rfl, ?_⟩, ?_, ?_⟩
  · rw [lay_data _ S (fun k hk => hl _ (by omega)) hok]
    refine dataS_on fun k hk => ?_
    unfold redoneS upd
    rw [if_neg (by omega)]
  · unfold redoneS upd
    rw [if_pos rfl]
    exact doneB_head Ks (by omega) hf.1
  · have e : redoneS Ks j (dn + 1) S 1 = S 1 := by
      unfold redoneS upd
      rw [if_neg (by omega)]
      refine layS_off 1 _ _ fun p hp => ?_
      obtain ⟨q, hq, rfl⟩ := List.mem_map.1 hp
      show ((1 + j + q.1.toNat : Nat) : Int).toNat ≠ 1
      omega
    rw [e, full_first hf]
    omega

/-- What Open answers. -/
def restPost (B D L n j : Nat) (S : Nat → List B8) (cw cf : Nat) (w : World) (e : Ending) (w' : World) : Prop :=
  (doneB Ks (S 0) = none ∧ e = .returned (.tuple #[.pointer none, .int .i64 5]) ∧ Stp B [D, L] w w') ∨
    ∃ dn S' cw' cf' done red, doneB Ks (S 0) = some dn ∧ Left S S' (n - j - 1) j dn done red ∧ cw' ≤ cw + 20 ∧ cf' ≤ cf + 2 ∧ openPost B D L n j S' cw' cf' done red w e w'
theorem open_rest {B : Nat} {w : World} {D L n j : Nat} {S : Nat → List B8} {cw cf : Nat} (hd : Idle B D L n S cw cf w) (hB : B ≤ w.heap.size) (hK : Roots Ks w) (hKB : 1 < B) (hj : j + 1 < n) (h2 : 2 ≤ j) (h3 : j ≤ 30) (h4 : j % 2 = 0) (hcw : cw ≤ 500000) (hcf : cf ≤ 500000) :
    Calls Tryz.prog 11 #[.pointer (some ⟨D, 0, none⟩), .int .i64 j] w (restPost B D L n j S cw cf w) := by
  cases hdn : doneB Ks (S 0) with
  | none => exact (open_bad Ks hd hB hK hKB hj h2 (by omega) h4 hdn).mono fun e w' ⟨h1, _, h3⟩ => .inl ⟨hdn, h1, h3⟩
  | some dn =>
    have hl : ∀ k, k < n → (S k).length = 64 := fun k hk => hd.sec hk
    by_cases hno : fromB (sub (S 1) 0 8) = dn + 1
    · by_cases hF : Full Ks S (n - j - 1) j (dn + 1)
      · have hc : cntOf S ≤ 15 := by have := hF.2.2.1; omega
        exact (open_redo Ks hd hB hK hKB hj h2 h3 h4 hdn hno hcw hcf hF).mono fun e w' h => .inr ⟨dn, _, _, _, _, _, hdn, left_redo h2 hF (fun k hk => hl k (by omega)), by omega, by omega, h⟩
      · exact (open_end Ks hd hB hK hKB hj h2 h3 h4 hdn hno hcw hcf hF).mono fun e w' h => .inr ⟨dn, _, _, _, _, _, hdn, left_end h2 hdn hF, by omega, by omega, h⟩
    · exact (open_none Ks B w D L n j S cw cf dn hd hB hK hKB hj h2 (by omega) h4 hdn hno).mono fun e w' h => .inr ⟨dn, _, _, _, _, _, hdn, left_none hdn hno, by omega, by omega, h⟩
/-- Opened again, nothing is done. -/
theorem open_again {B : Nat} {w : World} {D L n j : Nat} {S S' : Nat → List B8} {cw cf dn done : Nat} {red : Bool} (hd : Idle B D L n S' cw cf w) (hB : B ≤ w.heap.size) (hK : Roots Ks w) (hKB : 1 < B) (hj : j + 1 < n) (h2 : 2 ≤ j) (h3 : j ≤ 30) (h4 : j % 2 = 0) (hl : Left S S' (n - j - 1) j dn done red) :
    Calls Tryz.prog 11 #[.pointer (some ⟨D, 0, none⟩), .int .i64 j] w (openPost B D L n j S' cw cf done false w) :=
  open_none Ks B w D L n j S' cw cf done hd hB hK hKB hj h2 (by omega) h4 hl.2.1 hl.2.2
/-- What Open left is what the document recovers. -/
theorem rec_left {A : Nat → Prop} {S S' : Nat → List B8} {d j dn done : Nat} {red : Bool} {w w' : World} {e : Ending} (h0 : doneB Ks (S 0) = some dn) (hl : Left S S' d j dn done red) (h : rrecPost A S d j w e w') :
    (∃ v, e = .returned (.tuple #[v, .int .i64 (done : Nat), .bool red, .int .i64 0]) ∧ Bts (fun x => A x ∨ w.heap.size ≤ x) w' v (dataS S' j d)) ∧ Below w.heap.size w w' := by
  obtain ⟨h, hb⟩ := h
  refine ⟨?_, hb⟩
  rcases h with ⟨h1, _⟩ | ⟨k, v, h1, rfl, hf, hv⟩ | ⟨k, v, h1, rfl, hf, _, hv⟩
  · rw [h0] at h1; cases h1
  · rw [h0] at h1
    cases h1
    rcases hl.1 with ⟨hf', _⟩ | ⟨_, rfl, rfl, hd⟩
    · exact absurd hf' hf
    · exact ⟨v, rfl, by rw [hd]; exact hv⟩
  · rw [h0] at h1
    cases h1
    rcases hl.1 with ⟨_, rfl, rfl, hd⟩ | ⟨hf', _⟩
    · exact ⟨v, rfl, by rw [hd]; exact hv⟩
    · exact absurd hf hf'
theorem rec_none {A : Nat → Prop} {S : Nat → List B8} {d j : Nat} {w w' : World} {e : Ending} (h0 : doneB Ks (S 0) = none) (h : rrecPost A S d j w e w') :
    e = .returned (.tuple #[.slice none 0 0, .int .i64 0, .bool false, .int .i64 5]) ∧ Below w.heap.size w w' := by
  obtain ⟨h, hb⟩ := h
  refine ⟨?_, hb⟩
  rcases h with ⟨_, h⟩ | ⟨k, v, h1, _⟩ | ⟨k, v, h1, _⟩
  · exact h
  · rw [h0] at h1; cases h1
  · rw [h0] at h1; cases h1
end Go.Proofs.YtfkdpndcoegfpaaGreatDoor
end

/-
  In whatever order: the law's walk. Conditions: the writes are known; the constants lie in their variable.
-/

section
set_option maxRecDepth 100000
set_option linter.unusedSimpArgs false
set_option linter.unusedVariables false
namespace Go.Proofs.YtfkdpndcoegfpaaGreatDoor
open Go.RowKit

theorem WIn.below {w w' : World} {P : Option Addr} {n : Nat} {ws : List (Int × List B8)} (h : WIn w P n ws) (hb : Below w.heap.size w w') : WIn w' P n ws := by
  refine ⟨h.1, fun hn => ?_⟩
  obtain ⟨g, o, rfl, hg, hc⟩ := h.2 hn
  have hs := hb.size
  refine ⟨g, o, rfl, by omega, fun i p hp => ?_⟩
  obtain ⟨Q, m, c, c0, c1, ht⟩ := hc i p hp
  refine ⟨Q, m, c, (hb.cell (p := ⟨g, o + i * 2, none⟩) hg).trans c0, (hb.cell (p := ⟨g, o + i * 2 + 1, none⟩) hg).trans c1, ⟨⟨ht.txt.len, ht.txt.cap, ht.txt.capm, fun hm => ?_⟩, ht.nil⟩⟩
  obtain ⟨g', o', rfl, hg', hc'⟩ := ht.txt.cells hm
  have hl := World.block_lt_of_cell? w _ (hc' 0 (by omega))
  have hl' : g' < w.heap.size := hl
  refine ⟨g', o', rfl, by omega, fun j hj => (hb.cell (p := ⟨g', o' + j, none⟩) hl').trans (hc' j hj)⟩
theorem toW_length (ws : List (Int × List B8)) : (toW ws).length ≤ 10 := by simp [toW]; omega
/-- Where the logs are kept, as they are opened. -/
def Opened (B a : Nat) (wx : World) : Nat → Prop
  | 0 => Blk wx a 49 [.pointer none, .pointer none]
  | 1 => ∃ L D G, One B wx D L G (fun _ => List.replicate 64 0) 0 ∧ Blk wx a 49 [.pointer (some ⟨G, 0, none⟩), .pointer none] ∧ a < L ∧ L < D ∧ D < G
  | _ => ∃ L0 D0 G0 L1 D1 G1, Pair B wx a L0 D0 G0 L1 D1 G1 (fun _ => List.replicate 64 0) (fun _ => List.replicate 64 0) 0
theorem Idle.lower {B C D L n : Nat} {S : Nat → List B8} {cw cf : Nat} {w : World} (h : Idle B D L n S cw cf w) (hC : C ≤ B) : Idle C D L n S cw cf w := by
  obtain ⟨s, hd, hw, rest⟩ := h
  refine ⟨s, ⟨hd.disk, hd.laid, ?_, Nat.le_trans hC hd.baseD, Nat.le_trans hC hd.baseL, hd.good⟩, hw, rest⟩
  rw [hw]
  exact World.ownsRow_nil _ _ _ _

set_option maxHeartbeats 8000000 in
theorem order_walk (ks : List B32) (w : World) (P Q : Option Addr) (n c m d : Nat) (ws vs : List (Int × List B8)) (hK : Roots ks w) (hw : WIn w P n ws) (hv : WIn w Q m vs) (hn : n ≤ 9223372036854775807) (hm : m ≤ 9223372036854775807) :
    Calls Tryz.prog 4 #[.slice P n c, .slice Q m d] w fun e w' => e = .returned (.bool true) ∧ Below w.heap.size w w' := by
  have hpos := hK.pos
  have HK := Lib.hid hK
  have HW := Lib.hid (And.intro hw hv)
  clear hK hw hv
  go_enter Tryz.func4, Tryz.ntmps4
  go_wp2_with fail
  refine (to_any _ P n c ws HW.out.1 hn).mono ?_
  rintro e w1 ⟨v1, d1, rfl, hv1, hd1, hb1⟩
  have H1 := Lib.hid (And.intro hv1 (And.intro hd1 hb1))
  clear hv1 hd1 hb1
  go_wp2_with fail
  refine (to_any _ Q m d vs (HW.out.2.below H1.out.2.2) hm).mono ?_
  rintro e w2 ⟨v2, d2, rfl, hv2, hd2, hb2⟩
  have hl1 := toW_length ws
  have hl2 := toW_length vs
  obtain ⟨P1, c1, rfl⟩ := H1.out.1.form
  obtain ⟨R1, r1, rfl⟩ := H1.out.2.1.form
  obtain ⟨P2, c2, rfl⟩ := hv2.form
  obtain ⟨R2, r2, rfl⟩ := hd2.form
  generalize hn1 : (toW ws).length = n1 at *
  generalize hn2 : (toW vs).length = n2 at *
  have hs1 := H1.out.2.2.size
  have hs2 := hb2.size
  have A1 : Wrs (fun g => g < w2.heap.size) w2 (.slice P1 n1 c1) (toW ws) := ((H1.out.1.wrs (fun g hg => hg)).below hb2).mono (fun g _ h => h)
  have A2 : Rfs (fun g => g < w2.heap.size) w2 (.slice R1 n1 r1) (toW ws) := ((H1.out.2.1.rfs (fun g hg => hg)).below hb2).mono (fun g _ h => h)
  have A3 : Wrs (fun g => g < w2.heap.size) w2 (.slice P2 n2 c2) (toW vs) := (hv2.wrs (fun g hg => hg)).mono (fun g _ h => h)
  have A4 : Rfs (fun g => g < w2.heap.size) w2 (.slice R2 n2 r2) (toW vs) := (hd2.rfs (fun g hg => hg)).mono (fun g _ h => h)
  have HA := Lib.hid (And.intro A1 (And.intro A2 (And.intro A3 A4)))
  have HB := Lib.hid (below_of H1.out.2.2 hb2)
  clear A1 A2 A3 A4 hb2 hv2 hd2
  generalize toW ws = X at *
  generalize toW vs = Y at *
  go_wp2_with fail
  have hb2 := new_below w2 (.cells #[.pointer none, .pointer none] 49)
  have ha2 := Blk.new w2 49 [.pointer none, .pointer none]
  have H2 := Lib.hid (And.intro hb2 ha2)
  clear hb2 ha2
  go_loopw [10] (fun iv wx => ∃ i : Nat, i ≤ 2 ∧ iv = .int .i64 i ∧ Opened w2.heap.size w2.heap.size wx i ∧ Stp w2.heap.size [] w2 wx) (fun iv _ => 2 - (intOf iv).toNat)
  case atStart => exact ⟨0, by omega, rfl, H2.out.2, Stp.of_below (Nat.le_refl _) H2.out.1⟩
  case round =>
    obtain ⟨i, hi, rfl, ho, hs⟩ := hrel
    rcases Nat.lt_or_ge i 2 with hlt | hge
    · rcases Nat.lt_or_ge i 1 with h0 | h0
      · obtain rfl : i = 0 := by omega
        have ho : Blk wr w2.heap.size 49 [.pointer none, .pointer none] := ho
        have HR := Lib.hid (And.intro ho hs)
        have hsw := hs.size
        clear ho hs hi
        go_wp2_with fail
        refine (new_idle _ 37 (by omega) (by omega)).mono ?_
        rintro e w3 ⟨rfl, hI, hW⟩
        have H3 := Lib.hid (And.intro (hI.lower (C := w2.heap.size) hsw) hW)
        have hs3 := hW.size
        clear hI hW
        go_wp2_with fail
        refine (open_none ks w2.heap.size _ (wr.heap.size + 1) wr.heap.size 37 24 (fun _ => List.replicate 64 0) 0 0 0 H3.out.1 (by omega) ((HK.out.below HB.out hpos).below (HR.out.2.below.trans (H3.out.2.mono hsw)) (by omega)) (by omega) (by omega) (by omega) (by omega) (by omega) (by unfold doneB zeros64; rw [if_pos rfl]) (by rw [zeros_from]; omega)).mono ?_
        rintro e w4 ⟨rfl, hI, hG, hS⟩
        have hs4 := hS.size
        have hal := (HR.out.1).lt
        have ha4 : Blk w4 w2.heap.size 49 [.pointer none, .pointer none] := hS.keep _ _ _ (by decide) (by simp; omega) (((HR.out.1)).below H3.out.2 (HR.out.1).lt)
        have ⟨a0, a1⟩ := blk_pair ha4
        have z0 := ha4.frozen 0
        have z1 := ha4.frozen 1
        have h3l := H3.out.1.lt
        have hset := stp_set (B := w2.heap.size) (G := w2.heap.size) (w := w4) (o := 0) (by omega) (Nat.le_refl _) (.pointer (some ⟨w3.heap.size, 0, none⟩))
        have ha5 := ha4.set_ 0 (.pointer (some ⟨w3.heap.size, 0, none⟩))
        have hone : One w2.heap.size w4 (wr.heap.size + 1) wr.heap.size w3.heap.size (fun _ => List.replicate 64 0) 0 := ⟨0, 0, 0, Nat.le_refl _, Nat.le_refl _, Nat.le_refl _, hI, hG, by omega⟩
        have hst : Stp w2.heap.size [] w2 w4 := ((HR.out.2.trans (Stp.of_below hsw H3.out.2)).mono (Y := [wr.heap.size + 1, wr.heap.size]) (by simp)).trans hS |>.mono (by intro k hk hl; simp at hk; omega)
        have H4 := Lib.hid (And.intro hone (And.intro ha5 (And.intro hst (And.intro hset hS))))
        clear hI hG hS ha4 ha5 hset hone hst
        go_wp2_with fail
        go_roundw
        case rel =>
          refine ⟨0 + 1, by omega, by go_num, ?_, (H4.out.2.2.1.mono (Y := [w2.heap.size]) (by simp)).trans H4.out.2.2.2.1 |>.mono (by intro k hk hl; simp at hk; omega)⟩
          exact ⟨_, _, _, H4.out.1.stp H4.out.2.2.2.1 (by simp; omega) (by simp; omega) (by simp; omega), H4.out.2.1, hal, by omega, by omega⟩
        case measure => simp [intOf]
      · obtain rfl : i = 1 := by omega
        obtain ⟨L0, D0, G0, ho, har, hx1, hx2, hx3⟩ : ∃ L D G, One w2.heap.size wr D L G (fun _ => List.replicate 64 0) 0 ∧ Blk wr w2.heap.size 49 [.pointer (some ⟨G, 0, none⟩), .pointer none] ∧ w2.heap.size < L ∧ L < D ∧ D < G := ho
        have hGl : G0 < wr.heap.size := by obtain ⟨_, _, _, _, _, _, _, h, _⟩ := ho; exact h.lt
        have HO := Lib.hid (And.intro ho har)
        clear ho har
        have ho := True.intro
        have HR := Lib.hid (And.intro ho hs)
        have hsw := hs.size
        clear ho hs hi
        go_wp2_with fail
        refine (new_idle _ 37 (by omega) (by omega)).mono ?_
        rintro e w3 ⟨rfl, hI, hW⟩
        have H3 := Lib.hid (And.intro (hI.lower (C := w2.heap.size) hsw) hW)
        have hs3 := hW.size
        clear hI hW
        go_wp2_with fail
        refine (open_none ks w2.heap.size _ (wr.heap.size + 1) wr.heap.size 37 24 (fun _ => List.replicate 64 0) 0 0 0 H3.out.1 (by omega) ((HK.out.below HB.out hpos).below (HR.out.2.below.trans (H3.out.2.mono hsw)) (by omega)) (by omega) (by omega) (by omega) (by omega) (by omega) (by unfold doneB zeros64; rw [if_pos rfl]) (by rw [zeros_from]; omega)).mono ?_
        rintro e w4 ⟨rfl, hI, hG, hS⟩
        have hs4 := hS.size
        have hal := (HO.out.2).lt
        have ha4 : Blk w4 w2.heap.size 49 [.pointer (some ⟨G0, 0, none⟩), .pointer none] := hS.keep _ _ _ (by decide) (by simp; omega) (((HO.out.2)).below H3.out.2 (HO.out.2).lt)
        have ⟨a0, a1⟩ := blk_pair ha4
        have z0 := ha4.frozen 0
        have z1 := ha4.frozen 1
        have h3l := H3.out.1.lt
        have hset := stp_set (B := w2.heap.size) (G := w2.heap.size) (w := w4) (o := 1) (by omega) (Nat.le_refl _) (.pointer (some ⟨w3.heap.size, 0, none⟩))
        have ha5 := ha4.set_ 1 (.pointer (some ⟨w3.heap.size, 0, none⟩))
        have hone : One w2.heap.size w4 (wr.heap.size + 1) wr.heap.size w3.heap.size (fun _ => List.replicate 64 0) 0 := ⟨0, 0, 0, Nat.le_refl _, Nat.le_refl _, Nat.le_refl _, hI, hG, by omega⟩
        have hst : Stp w2.heap.size [] w2 w4 := ((HR.out.2.trans (Stp.of_below hsw H3.out.2)).mono (Y := [wr.heap.size + 1, wr.heap.size]) (by simp)).trans hS |>.mono (by intro k hk hl; simp at hk; omega)
        have H4 := Lib.hid (And.intro hone (And.intro ha5 (And.intro hst (And.intro hset hS))))
        clear hI hG hS ha4 ha5 hset hone hst
        go_wp2_with fail
        go_roundw
        case rel =>
          refine ⟨1 + 1, by omega, by go_num, ?_, (H4.out.2.2.1.mono (Y := [w2.heap.size]) (by simp)).trans H4.out.2.2.2.1 |>.mono (by intro k hk hl; simp at hk; omega)⟩
          exact ⟨L0, D0, G0, _, _, _, ⟨((HO.out.1.below H3.out.2).stp H4.out.2.2.2.2 (by simp; omega) (by simp; omega) (by simp; omega)).stp H4.out.2.2.2.1 (by simp; omega) (by simp; omega) (by simp; omega), H4.out.1.stp H4.out.2.2.2.1 (by simp; omega) (by simp; omega) (by simp; omega), H4.out.2.1, Nat.le_refl _, hx1, hx2, hx3, hGl, by omega, by omega⟩⟩
        case measure => simp [intOf]
    · obtain rfl : i = 2 := by omega
      obtain ⟨L0, D0, G0, L1, D1, G1, hp⟩ : ∃ L0 D0 G0 L1 D1 G1, Pair w2.heap.size wr w2.heap.size L0 D0 G0 L1 D1 G1 (fun _ => List.replicate 64 0) (fun _ => List.replicate 64 0) 0 := ho
      have HP := Lib.hid (And.intro hp hs)
      clear hp hs
      go_wp2_with fail
      have hb0 := HP.out.2.below
      have hs0 := HP.out.2.size
      have hkb : 1 < w2.heap.size := by omega
      have HK0 := Lib.hid (show Roots ks w2 from HK.out.below HB.out hpos)
      have HF := Lib.hid (show ∀ wx wy, Below w2.heap.size w2 wx → Below wx.heap.size wx wy → Below w.heap.size w wy from fun wx wy h h' => HB.out.trans ((h.trans (h'.mono h.size)).mono HB.out.size))
      refine (rcheck_any _ (fun g => g < w2.heap.size) R1 n1 r1 12 12 X (HA.out.2.1.stp HP.out.2 (by simp))).mono ?_
      rintro e w5 ⟨⟨ra, rfl, hra⟩, hW5⟩
      by_cases hra0 : ra = 0
      · subst hra0
        have H5 := Lib.hid (And.intro (hra rfl) hW5)
        have hs5 := hW5.size
        clear hra hW5
        go_wp2_with fail
        refine (rcheck_any _ (fun g => g < w2.heap.size) R2 n2 r2 12 12 Y ((HA.out.2.2.2.stp HP.out.2 (by simp)).below H5.out.2)).mono ?_
        rintro e w6 ⟨⟨rb, rfl, hrb⟩, hW6⟩
        by_cases hrb0 : rb = 0
        · subst hrb0
          have hb6 := below_of H5.out.2 hW6
          have hs6 := hb6.size
          have H6 := Lib.hid (And.intro H5.out.1.1 (And.intro (hrb rfl).1 (And.intro (HP.out.1.below hb6) (HP.out.2.trans (Stp.of_below (by omega) hb6)))))
          clear hrb hW6 hb6 H5
          go_wp2_with fail
          have hl1 : X.length = n1 := HA.out.1.len
          have hl2 : Y.length = n2 := HA.out.2.2.1.len
          have HL := Lib.hid (And.intro hl1 hl2)
          clear hl1 hl2 hn1 hn2
          go_loopw [15] (fun iv wx => ∃ i : Nat, i ≤ n1 ∧ iv = .int .i64 i ∧ Below w6.heap.size w6 wx ∧ ∀ (k : Nat) p, k < i → X[k]? = some p → ∀ q ∈ Y, p.1 ≠ q.1) (fun iv _ => n1 - (intOf iv).toNat)
          case atStart => exact ⟨0, Nat.zero_le _, rfl, Below.refl _ _, fun k p h => absurd h (by omega)⟩
          case round =>
            obtain ⟨i, hi, rfl, hb, hall⟩ := hrel
            by_cases hlt : i < n1
            · obtain ⟨p, hp⟩ : ∃ p, X[i]? = some p := ⟨_, List.getElem?_eq_getElem (by have := HL.out.1; omega)⟩
              have HR := Lib.hid (And.intro hb (And.intro hall hp))
              clear hb hall hp
              go_wp2_with fail
              go_loopw [16] (fun iv wx => ∃ k : Nat, k ≤ n2 ∧ iv = .int .i64 k ∧ Below w6.heap.size w6 wx ∧ ∀ (k' : Nat) q, k' < k → Y[k']? = some q → p.1 ≠ q.1) (fun iv _ => n2 - (intOf iv).toNat)
              case atStart => exact ⟨0, Nat.zero_le _, rfl, HR.out.1, fun k p h => absurd h (by omega)⟩
              case round =>
                obtain ⟨k, hk, rfl, hb, hall⟩ := hrel
                by_cases hkt : k < n2
                · obtain ⟨q, hq⟩ : ∃ q, Y[k]? = some q := ⟨_, List.getElem?_eq_getElem (by have := HL.out.2; omega)⟩
                  obtain ⟨g, Q1, m1, k1, rfl, hg, hAg, c0, c1, _, _, _, _⟩ := ((HA.out.2.1.stp H6.out.2.2.2 (by simp)).below hb).at_ HR.out.2.2
                  obtain ⟨g', Q2, m2, k2, rfl, hg', hAg', e0, e1, _, _, _, _⟩ := ((HA.out.2.2.2.stp H6.out.2.2.2 (by simp)).below hb).at_ hq
                  have HKK := Lib.hid (And.intro hb (And.intro hall hq))
                  clear hb hall hq
                  by_cases hpq : p.1 = q.1
                  · have e0' : (p.1 == q.1) = true := by simpa using hpq
                    clear hpq
                    go_wp2_with fail
                    go_region
                    have HBW := Lib.hid (H6.out.2.2.2.below.trans (HKK.out.1.drew.mono H6.out.2.2.2.size))
                    go_wp2_with (go_at_call 14; refine (jknown_walk ks _ (HK0.out.below HBW.out hkb)).mono ?_; rintro e w9 ⟨rfl, hW⟩; have H9 := Lib.hid hW; clear hW)
                    go_ret
                    exact ⟨rfl, HF.out _ _ HBW.out H9.out⟩
                  · have e0' : (p.1 == q.1) = false := by simpa using hpq
                    have HNE := Lib.hid hpq
                    clear hpq
                    go_wp2_with fail
                    go_region
                    go_wp2_with fail
                    go_roundw
                    case rel =>
                      refine ⟨k + 1, by omega, by go_num, HKK.out.1.drew, fun k' x hk' hx => ?_⟩
                      by_cases h : k' = k
                      · subst h
                        rw [HKK.out.2.2] at hx
                        cases hx
                        exact HNE.out
                      · exact HKK.out.2.1 k' x (by omega) hx
                    case measure => simp [intOf]; omega
                · obtain rfl : k = n2 := by omega
                  have HKK := Lib.hid (And.intro hb hall)
                  clear hb hall
                  go_wp2_with fail
                  go_roundw
                  case rel =>
                    refine ⟨i + 1, by omega, by go_num, HKK.out.1, fun k' x hk' hx q hq => ?_⟩
                    by_cases h : k' = i
                    · subst h
                      rw [HR.out.2.2] at hx
                      cases hx
                      obtain ⟨j, hj⟩ := List.mem_iff_getElem?.1 hq
                      exact HKK.out.2 j q (by have := (List.getElem?_eq_some_iff.1 hj).1; have := HL.out.2; omega) hj
                    · exact HR.out.2.1 k' x (by omega) hx q hq
                  case measure => simp [intOf]; omega
            · obtain rfl : i = n1 := by omega
              have hne : ∀ p ∈ X, ∀ q ∈ Y, p.1 ≠ q.1 := by
                intro p hp q hq
                obtain ⟨k, hk⟩ := List.mem_iff_getElem?.1 hp
                exact hall k p (by have := (List.getElem?_eq_some_iff.1 hk).1; have := HL.out.1; omega) hk q hq
              have hpr := H6.out.2.2.1.below hb
              have HN := Lib.hid (And.intro hne (And.intro (H6.out.2.2.2.trans (Stp.of_below H6.out.2.2.2.size hb)) hpr))
              have ⟨a0, a1⟩ := blk_pair hpr.arr
              have hso := hpr.ord
              have hsw := HN.out.2.1.size
              clear hb hall hne hpr
              go_wp2_with fail
              refine (commit_one ks (A := fun g => g < w2.heap.size) HN.out.2.2.one HN.out.2.1.size (HK0.out.below HN.out.2.1.below hkb) hkb (HA.out.1.stp HN.out.2.1 (by simp)) (fun g hg h => by simp at h; omega) H6.out.1 (by omega) (by omega)).mono ?_
              rintro e w7 ⟨rfl, S7, hO, hdv, hS⟩
              have hpr := HN.out.2.2.first hO (by omega) hS
              have H7 := Lib.hid (And.intro hdv (And.intro (((HN.out.2.1.mono (Y := [D0, L0, G0]) (by simp)).trans hS).mono (Y := []) (by intro k hk hl; simp at hk; omega)) hpr))
              have ⟨a0, a1⟩ := blk_pair hpr.arr
              clear hO hdv hS hpr
              go_wp2_with fail
              refine (commit_one ks (A := fun g => g < w2.heap.size) H7.out.2.2.one H7.out.2.1.size (HK0.out.below H7.out.2.1.below hkb) hkb (HA.out.2.2.1.stp H7.out.2.1 (by simp)) (fun g hg h => by simp at h; omega) H6.out.2.1 (by omega) (by omega)).mono ?_
              rintro e w8 ⟨rfl, S8, hO, hdv, hS⟩
              have hpr := H7.out.2.2.first hO (by omega) hS
              have H8 := Lib.hid (And.intro hdv (And.intro (((H7.out.2.1.mono (Y := [D0, L0, G0]) (by simp)).trans hS).mono (Y := []) (by intro k hk hl; simp at hk; omega)) hpr))
              have ⟨a0, a1⟩ := blk_pair hpr.arr
              clear hO hdv hS hpr
              go_wp2_with fail
              refine (commit_one ks (A := fun g => g < w2.heap.size) H8.out.2.2.two H8.out.2.1.size (HK0.out.below H8.out.2.1.below hkb) hkb (HA.out.2.2.1.stp H8.out.2.1 (by simp)) (fun g hg h => by simp at h; omega) H6.out.2.1 (by omega) (by omega)).mono ?_
              rintro e w10 ⟨rfl, T1, hO, hdv, hS⟩
              have hpr := H8.out.2.2.second hO (by omega) hS
              have H10 := Lib.hid (And.intro hdv (And.intro (((H8.out.2.1.mono (Y := [D1, L1, G1]) (by simp)).trans hS).mono (Y := []) (by intro k hk hl; simp at hk; omega)) hpr))
              have ⟨a0, a1⟩ := blk_pair hpr.arr
              clear hO hdv hS hpr
              go_wp2_with fail
              refine (commit_one ks (A := fun g => g < w2.heap.size) H10.out.2.2.two H10.out.2.1.size (HK0.out.below H10.out.2.1.below hkb) hkb (HA.out.1.stp H10.out.2.1 (by simp)) (fun g hg h => by simp at h; omega) H6.out.1 (by omega) (by omega)).mono ?_
              rintro e w11 ⟨rfl, T2, hO, hdv, hS⟩
              have hpr := H10.out.2.2.second hO (by omega) hS
              have H11 := Lib.hid (And.intro hdv (And.intro (((H10.out.2.1.mono (Y := [D1, L1, G1]) (by simp)).trans hS).mono (Y := []) (by intro k hk hl; simp at hk; omega)) hpr))
              have ⟨a0, a1⟩ := blk_pair hpr.arr
              clear hO hdv hS hpr
              go_wp2_with fail
              go_loopw [18, 17] (fun iv bv wx => ∃ k : Nat, k ≤ i ∧ iv = .int .i64 k ∧ bv = .bool true ∧ Below w11.heap.size w11 wx) (fun iv _ _ => i - (intOf iv).toNat)
              case atStart => exact ⟨0, Nat.zero_le _, rfl, rfl, Below.refl _ _⟩
              case round =>
                obtain ⟨k, hk, rfl, rfl, hb⟩ := hrel
                have HR := Lib.hid hb
                by_cases hkt : k < i
                · obtain ⟨p, hp⟩ : ∃ p, X[k]? = some p := ⟨_, List.getElem?_eq_getElem (by have := HL.out.1; omega)⟩
                  obtain ⟨g, Qk, mk, kk, rfl, hg, hAg, c0, c1, hml, hbt, hmk, hkk⟩ := ((HA.out.2.1.stp H11.out.2.1 (by simp)).below hb).at_ hp
                  have hpm := H6.out.1.each p (List.mem_of_getElem? hp)
                  obtain ⟨q, hq⟩ : ∃ q : Nat, p.1 = q := ⟨p.1.toNat, by omega⟩
                  have hq12 : q < 12 := by omega
                  rw [hq] at c0
                  have hval : dv T2 q = p.2 := by
                    rw [H11.out.1, show q = p.1.toNat by omega]
                    exact layS_at _ H6.out.1.nodup (fun r hr => (H6.out.1.each r hr).1) (List.mem_of_getElem? hp)
                  have HV := Lib.hid (And.intro hval (And.intro hbt (And.intro hp hpm)))
                  have hpw := H11.out.2.2.below hb
                  have ⟨a0, a1⟩ := blk_pair hpw.arr
                  have H12 := Lib.hid (And.intro hpw hb)
                  clear hval hbt hp hpm hpw hb hq hml
                  go_wp2_with fail
                  go_region_held3 (fun w' => w'.cell? ⟨w2.heap.size, 1, none⟩ = some (.pointer (some ⟨G1, 0, none⟩)) ∧ w'.cell? ⟨g, k * 2, none⟩ = some (.int .i64 q))
                    (first | exact ⟨y1, y0⟩ | exact ⟨a1, c0⟩)
                    (first
                      | (go_at_call 23; refine (read_one (H12.out.1.two.below (drew_below _)) q hq12).mono ?_; rintro e w13 ⟨v, rfl, hv, hW⟩; have y1 := cell_drew a1 hW; have y0 := cell_drew c0 hW; have z1 := cell_drew c1 hW; obtain ⟨Qv, kv, rfl, hv1, hv2⟩ := hv.form; have H13 := Lib.hid (And.intro hv (below_drew (Below.refl _ _) hW)); clear hW hv))
                  go_wp2_with (go_at_call 17; refine (same_bts (b := true) H13.out.1 (HV.out.2.1.below H13.out.2) (by simpa using HV.out.1)).mono ?_; rintro e w14 ⟨rfl, hW⟩; have H14 := Lib.hid (below_of H13.out.2 hW); clear hW)
                  go_roundw
                  case rel => exact ⟨k + 1, by omega, by go_num, rfl, below_of H12.out.2 H14.out⟩
                  case measure => simp [intOf]; omega
                · obtain rfl : k = i := by omega
                  have hpw := H11.out.2.2.below hb
                  have ⟨a0, a1⟩ := blk_pair hpw.arr
                  have hbw := H11.out.2.1.below.trans (hb.mono H11.out.2.1.size)
                  have H12 := Lib.hid (And.intro hpw hbw)
                  have hsame : dv S8 = dv T2 := by
                    rw [H8.out.1, H7.out.1, H11.out.1, H10.out.1]
                    funext x
                    refine layS_comm _ (fun p hp q hq h => HN.out.1 p hp q hq ?_) x
                    have := (H6.out.1.each p hp).1
                    have := (H6.out.2.1.each q hq).1
                    omega
                  have HS := Lib.hid hsame
                  have hswr := hbw.size
                  clear hpw hbw hb hsame
                  go_wp2_with fail
                  go_region_held3 (fun w' => w'.cell? ⟨w2.heap.size, 0, none⟩ = some (.pointer (some ⟨G0, 0, none⟩)) ∧ w'.cell? ⟨w2.heap.size, 1, none⟩ = some (.pointer (some ⟨G1, 0, none⟩)))
                    (first | exact ⟨x0, x1⟩ | exact ⟨q0, q1⟩ | exact ⟨z0, z1⟩ | exact ⟨y0, y1⟩ | exact ⟨a0, a1⟩)
                    (first
                      | (go_at_call 14; refine (jknown_walk ks _ (HK0.out.below (H12.out.2.trans ((drew_below _).mono hswr)) hkb)).mono ?_; rintro e w13 ⟨rfl, hW⟩; have y0 := cell_drew a0 hW; have y1 := cell_drew a1 hW; have H13 := Lib.hid (And.intro (H12.out.1.below (below_drew (Below.refl _ _) hW)) (below_drew (Below.refl _ _) hW)); clear hW)
                      | (go_at_call 18; refine (data_one H14.out.1.two).mono ?_; rintro e w15 ⟨Qy, ky, rfl, hv, hW⟩; have q0 := cell_below z0 hW; have q1 := cell_below z1 hW; have H15 := Lib.hid (And.intro (H14.out.2.1.below hW) (And.intro hv (below_of H14.out.2.2 hW))); clear hW hv)
                      | (go_at_call 18; refine (data_one H13.out.1.one).mono ?_; rintro e w14 ⟨Qv, kv, rfl, hv, hW⟩; have z0 := cell_below y0 hW; have z1 := cell_below y1 hW; have H14 := Lib.hid (And.intro (H13.out.1.below hW) (And.intro hv (below_of H13.out.2 hW))); clear hW hv)
                      | (go_at_call 17; refine (same_bts (b := true) H15.out.1 H15.out.2.1 (by rw [HS.out]; simp)).mono ?_; rintro e w16 ⟨rfl, hW⟩; have x0 := cell_below q0 hW; have x1 := cell_below q1 hW; have H16 := Lib.hid (below_of H15.out.2.2 hW); clear hW))
                  go_wp2_with fail
                  go_ret
                  exact ⟨rfl, HF.out _ _ H12.out.2 H16.out⟩
        · have e0 : (rb != 0) = true := by simpa using hrb0
          have HBW := Lib.hid (HP.out.2.below.trans ((below_of H5.out.2 hW6).mono HP.out.2.size))
          clear hrb hW6 hrb0
          go_wp2_with (go_at_call 14; refine (jknown_walk ks _ (HK0.out.below HBW.out hkb)).mono ?_; rintro e w9 ⟨rfl, hW⟩; have H9 := Lib.hid hW; clear hW)
          go_ret
          exact ⟨rfl, HF.out _ _ HBW.out H9.out⟩
      · have e0 : (ra != 0) = true := by simpa using hra0
        have HBW := Lib.hid (HP.out.2.below.trans (hW5.mono HP.out.2.size))
        clear hra hW5 hra0
        go_wp2_with (go_at_call 14; refine (jknown_walk ks _ (HK0.out.below HBW.out hkb)).mono ?_; rintro e w9 ⟨rfl, hW⟩; have H9 := Lib.hid hW; clear hW)
        go_ret
        exact ⟨rfl, HF.out _ _ HBW.out H9.out⟩
end Go.Proofs.YtfkdpndcoegfpaaGreatDoor
end

/-
  Open of any disk's bytes: the law's walk. Conditions: the bytes are known; the constants lie in their variable.
-/

section
set_option maxRecDepth 100000
set_option linter.unusedSimpArgs false
set_option linter.unusedVariables false
namespace Go.Proofs.YtfkdpndcoegfpaaGreatDoor
open Go.RowKit

theorem some_rem (s : Int) (h : Nat) (h1 : 1 ≤ h) (h2 : h ≤ 1000) : ∃ k : Nat, k < h ∧ wrap64 ((IntKind.u64.wrap s).tmod (h : Int)) = (k : Int) := by
  have h0 : 0 ≤ IntKind.u64.wrap s := by rw [IntKind.wrap_u64]; omega
  rw [Int.tmod_eq_emod_of_nonneg h0]
  have hm := Int.emod_nonneg (IntKind.u64.wrap s) (b := (h : Int)) (by omega)
  have hl := Int.emod_lt_of_pos (IntKind.u64.wrap s) (b := (h : Int)) (by omega)
  refine ⟨(IntKind.u64.wrap s % h).toNat, by omega, ?_⟩
  rw [IntWalk.wrap64_in _ ⟨by omega, by omega⟩]
  omega

/-- The first i bytes of others, and bytes 0, n in all. -/
def fillB (bs : List B8) (n i : Nat) : List B8 := bs.take i ++ List.replicate (n - i) 0
theorem fillB_length {bs : List B8} {n i : Nat} (h1 : i ≤ bs.length) (h2 : i ≤ n) : (fillB bs n i).length = n := by unfold fillB; simp; omega
theorem fillB_zero (bs : List B8) (n : Nat) : fillB bs n 0 = List.replicate n 0 := by simp [fillB]
theorem fillB_set {bs : List B8} {n i : Nat} {x : B8} (hx : bs[i]? = some x) (hi : i < n) : (Vb (fillB bs n i)).set i (.int .u8 (nb x)) = Vb (fillB bs n (i + 1)) := by
  have hl := (List.getElem?_eq_some_iff.1 hx).1
  unfold Vb
  apply List.ext_getElem?
  intro k
  rw [List.getElem?_set]
  unfold fillB
  by_cases h : i = k
  · subst h
    rw [if_pos rfl, if_pos (by simp; omega), List.getElem?_map, List.getElem?_append_left (by simp; omega), List.getElem?_take, if_pos (by omega), hx]
    rfl
  · rw [if_neg h, List.getElem?_map, List.getElem?_map]
    congr 1
    by_cases hk : k < i
    · rw [List.getElem?_append_left (by simp; omega), List.getElem?_append_left (by simp; omega), List.getElem?_take, List.getElem?_take, if_pos hk, if_pos (by omega)]
    · rw [List.getElem?_append_right (by simp; omega), List.getElem?_append_right (by simp; omega), List.getElem?_replicate, List.getElem?_replicate]
      simp only [List.length_take]
      by_cases h2 : k < n
      · rw [if_pos (by omega), if_pos (by omega)]
      · rw [if_neg (by omega), if_neg (by omega)]
/-- The sectors, of which the first k are written. -/
def partS (all : List B8) (k : Nat) : Nat → List B8 := fun i => if i < k then sub all (64 * i) 64 else List.replicate 64 0
theorem partS_upd (all : List B8) (k : Nat) : upd (partS all k) k (sub all (64 * k) 64) = partS all (k + 1) := by
  funext i
  unfold upd partS
  by_cases h : i = k
  · subst h
    rw [if_pos rfl, if_pos (by omega)]
  · rw [if_neg h]
    by_cases h2 : i < k
    · rw [if_pos h2, if_pos (by omega)]
    · rw [if_neg h2, if_neg (by omega)]
theorem partS_zero (all : List B8) : partS all 0 = fun _ => List.replicate 64 0 := by
  funext i
  unfold partS
  rw [if_neg (by omega)]
theorem make_zeros (n : Nat) (hn : n ≤ 100000) (w : World) : (Instr.makeSlice 22 (.int .i64 (n : Int)) (.int .i64 (n : Int))).run Tryz.prog w = .ok (.slice (some ⟨w.heap.size, 0, none⟩) n n) (w.alloc (.cells (Vb (List.replicate n (0 : B8))).toArray 5)) := by
  have h := make_bytes w (n : Int) (by omega) (by omega)
  rw [Int.toNat_natCast] at h
  have e : U (List.replicate n 0) = Vb (List.replicate n (0 : B8)) := by simp [U, Vb, nb]
  rw [e] at h
  exact h

set_option maxHeartbeats 4000000 in
theorem opens_walk (w : World) (P : Option Addr) (m c : Nat) (bs : List B8) (s jn : Int) (hK : Roots Ks w) (ht : TxtN w w.heap.size P m c bs) (hm : m ≤ 9223372036854775807) :
    Calls Tryz.prog 3 #[.slice P m c, .int .i64 s, .int .i64 jn] w fun e w' => e = .returned (.bool true) ∧ Below w.heap.size w w' := by
  have hpos := hK.pos
  have H := Lib.hid (And.intro hK ht)
  clear hK ht
  obtain ⟨k, hk9, hk⟩ := some_rem s 9 (by omega) (by omega)
  have hk' : wrap64 ((IntKind.u64.wrap s).tmod 9) = (k : Int) := hk
  clear hk
  obtain ⟨n, hn⟩ : ∃ n, 4 + k = n := ⟨_, rfl⟩
  have hni : (4 : Int) + (k : Int) = (n : Int) := by omega
  obtain ⟨h, hh⟩ : ∃ h, (n - 2) / 2 = h := ⟨_, rfl⟩
  have hhi : ((n : Int) - 2) / 2 = (h : Int) := by omega
  have hn4 : 4 ≤ n := by omega
  have hn12 : n ≤ 12 := by omega
  have hh1 : 1 ≤ h := by omega
  have hh0 : ((h : Int) == 0) = false := beq_eq_false_iff_ne.2 (by omega)
  have hu : IntKind.u64.wrap (h : Int) = (h : Int) := by rw [IntKind.wrap_u64]; omega
  obtain ⟨k2, hk2, hk2e⟩ := some_rem jn h hh1 (by omega)
  obtain ⟨j, hj⟩ : ∃ j, 2 + 2 * k2 = j := ⟨_, rfl⟩
  have hji : (2 : Int) + 2 * (k2 : Int) = (j : Int) := by omega
  have hj2 : 2 ≤ j := by omega
  have hjn : j + 1 < n := by omega
  have HN := Lib.hid (And.intro hn (And.intro hh (And.intro hj (show j % 2 = 0 by omega))))
  clear hn hh hj
  go_enter Tryz.func3, Tryz.ntmps3
  go_upto_region 3 with fail
  obtain ⟨N, hNN⟩ : ∃ N, 64 * n = N := ⟨_, rfl⟩
  have hNi : (64 : Int) * (n : Int) = (N : Int) := by omega
  have hN1 : N ≤ 1000 := by omega
  have hmk := make_zeros N (by omega)
  have HNN := Lib.hid hNN
  clear hni hhi hu hk2e hji hk' hh0 hNN
  go_wp2_with fail
  refine (new_idle w n (by omega) (by omega)).mono ?_
  rintro e w1 ⟨rfl, hI, hW⟩
  have hlt := hI.lt
  have hb2 := new_below w1 (.cells (Vb (List.replicate N (0 : B8))).toArray 5)
  have hk2' := Blk.new w1 5 (Vb (List.replicate N (0 : B8)))
  have hs1 := hW.size
  have H1 := Lib.hid (And.intro hI (And.intro hW (And.intro hb2 hk2')))
  clear hI hW hb2 hk2'
  go_upto_block 0 with fail
  clear hmk
  go_cut [] (fun wx => ∃ all : List B8, all.length = N ∧ Blk wx w1.heap.size 5 (Vb all) ∧ Below w1.heap.size w1 wx)
  case first =>
    go_wp2_with fail
    clear hNi
    go_loopw [10] (fun iv wx => ∃ i : Nat, i ≤ m ∧ i ≤ N ∧ iv = .int .i64 i ∧ Blk wx w1.heap.size 5 (Vb (fillB bs N i)) ∧ Below w1.heap.size w1 wx) (fun iv _ => N - (intOf iv).toNat)
    case atStart => exact ⟨0, Nat.zero_le _, Nat.zero_le _, rfl, by rw [fillB_zero]; exact H1.out.2.2.2, H1.out.2.2.1⟩
    case round =>
      obtain ⟨i, him, hiN, rfl, hk, hb⟩ := hrel
      by_cases hlt1 : i < m
      · by_cases hlt2 : i < N
        · have hml := H.out.2.txt.len
          obtain ⟨x, hx⟩ : ∃ x, bs[i]? = some x := ⟨_, List.getElem?_eq_getElem (by omega)⟩
          obtain ⟨g, o, rfl, hg, hc⟩ := H.out.2.txt.cells (by omega)
          have c0 := hc i (by omega)
          have hgl := World.block_lt_of_cell? w _ c0
          rw [List.getD_eq_getElem?_getD, hx, Option.getD_some] at c0
          have e0 := cell_below (cell_below c0 H1.out.2.1) hb
          obtain ⟨u, e1⟩ : ∃ u, wr.cell? ⟨w1.heap.size, i, none⟩ = some u := ⟨_, by rw [hk.cell, List.getElem?_eq_getElem (by rw [Vb_length, fillB_length (by omega) (by omega)]; exact hlt2)]⟩
          have f1 := hk.frozen i
          have HK := Lib.hid (And.intro hk (And.intro hb hx))
          clear hc c0 hk hb hx hgl hml hg
          go_wp2_with fail
          go_roundw
          case rel => exact ⟨i + 1, by omega, by omega, by go_num, by rw [← fillB_set HK.out.2.2 hlt2]; exact HK.out.1.set_ i _, HK.out.2.1.setCell (Nat.le_refl _) _⟩
          case measure => simp [intOf]; omega
        · have HK := Lib.hid (And.intro hk hb)
          clear hk hb
          go_wp2_with fail
          go_meet
          exact ⟨_, fillB_length (by have := H.out.2.txt.len; omega) (by omega), HK.out.1, HK.out.2⟩
      · have HK := Lib.hid (And.intro hk hb)
        clear hk hb
        go_wp2_with fail
        go_meet
        exact ⟨_, fillB_length (by have := H.out.2.txt.len; omega) (by omega), HK.out.1, HK.out.2⟩
  case rest =>
    obtain ⟨all, hal, hka, hba⟩ := hcut
    have hss := hba.size
    have hcalm := (H1.out.1.below hba).calm
    have H2 := Lib.hid (And.intro hal (And.intro hka (And.intro hba hcalm)))
    clear hal hka hba hcalm hNi
    go_wp2_with fail
    go_upto_block 2 with fail
    go_loopw [11] (fun iv wx => ∃ i : Nat, i ≤ n ∧ iv = .int .i64 i ∧ Calm w.heap.size (w.heap.size + 1) w.heap.size n (partS all i) i 0 wx ∧ Blk wx w1.heap.size 5 (Vb all) ∧ Stp w.heap.size [w.heap.size + 1, w.heap.size] wc wx) (fun iv _ => n - (intOf iv).toNat)
    case atStart => exact ⟨0, Nat.zero_le _, rfl, by rw [partS_zero]; exact H2.out.2.2.2, H2.out.2.1, Stp.refl _ _ _⟩
    case round =>
      obtain ⟨i, hi, rfl, hcal, hka, hst⟩ := hrel
      have hsr := hst.size
      by_cases hlt1 : i < n
      · obtain ⟨q, hq⟩ : ∃ q, 64 * i = q := ⟨_, rfl⟩
        have hqi : (64 : Int) * (i : Int) = (q : Int) := by omega
        have hqN : q + 64 ≤ N := by have := HNN.out; omega
        have hne : ¬ N = q := by omega
        have hbt := (Bts.whole (A := fun x => x = w1.heap.size) hka (.inl rfl) rfl H2.out.1 (by omega)).sub_ (k := q) (n := 64) (c' := N - q) hqN (by omega) (by omega)
        rw [Nat.zero_add] at hbt
        have HR := Lib.hid (And.intro hcal (And.intro hka (And.intro hst (And.intro hbt hq))))
        clear hcal hka hst hbt hq
        go_wp2_with fail
        rw [show q + 64 - q = 64 by omega]
        refine (write_calm HR.out.1 (by omega) HR.out.2.2.2.1 (by rintro g rfl; omega) (by omega) (by omega) (sub_length (by rw [H2.out.1]; omega)) (by omega)).mono ?_
        rintro e w5 ⟨rfl, hC, hS⟩
        rw [Int.toNat_natCast, ← HR.out.2.2.2.2, partS_upd] at hC
        have H5 := Lib.hid (And.intro hC (And.intro (hS.keep _ _ _ (by decide) (by simp; omega) HR.out.2.1) (HR.out.2.2.1.trans hS)))
        clear hC hS
        go_wp2_with fail
        go_roundw
        case rel => exact ⟨i + 1, by omega, by go_num, H5.out.1, H5.out.2.1, H5.out.2.2⟩
        case measure => simp [intOf]; omega
      · obtain rfl : i = n := by omega
        have HR := Lib.hid (And.intro hcal (And.intro hka hst))
        clear hcal hka hst
        go_wp2_with fail
        refine (flush_calm HR.out.1 (by omega) (by omega)).mono ?_
        rintro e w5 ⟨rfl, hI, hS⟩
        have hI2 := hI.same (S' := fun k => sub all (64 * k) 64) (fun k hk => by unfold partS; rw [if_pos hk])
        have hka5 := hS.keep _ _ _ (by decide) (by simp; omega) HR.out.2.1
        have hst5 := HR.out.2.2.trans hS
        have hs5 := hst5.size
        have hbw := (H1.out.2.1.trans ((H2.out.2.2.1.mono hs1))).trans hst5.below
        have H5 := Lib.hid (And.intro hI2 (And.intro hka5 (And.intro hbw (H.out.1.below hbw hpos))))
        clear hI hS hI2 hka5 hst5 hbw
        go_wp2_with fail
        refine (open_rest H5.out.1 (by omega) H5.out.2.2.2 hpos hjn hj2 (by omega) HN.out.2.2.2 (by omega) (by omega)).mono ?_
        rintro e w6 hres
        obtain ⟨S, hS⟩ : ∃ S : Nat → List B8, (fun k => sub all (64 * k) 64) = S := ⟨_, rfl⟩
        rw [hS] at hres
        have HS := Lib.hid hS
        clear hS
        rcases hres with ⟨hdn, rfl, hS6⟩ | ⟨dn, S', cw', cf', done, red, hdn, hleft, hcw', hcf', rfl, hI6, hG6, hS6⟩
        · have hga := hS6.keep _ _ _ (by decide) (by simp; omega) H5.out.2.1
          have hbw := H5.out.2.2.1.trans hS6.below
          have H6 := Lib.hid (And.intro hdn (And.intro hga hbw))
          clear hdn hS6 hga hbw
          go_wp2_with fail
          refine (make_tbl _).mono ?_
          rintro e w7 ⟨rfl, hW⟩
          have H7 := Lib.hid (And.intro (H6.out.2.1.below hW H6.out.2.1.lt) (H6.out.2.2.trans (hW.mono H6.out.2.2.size)))
          clear hW
          go_wp2_with fail
          refine (rrecover_any _ (fun x => x = w1.heap.size) w1.heap.size 0 N N i j all (Bts.whole H7.out.1 (.inl rfl) rfl H2.out.1 (by omega)) HNN.out.symm (Nat.le_refl _) (by omega) (by omega) hjn hj2 (by omega) HN.out.2.2.2).mono ?_
          rw [HS.out]
          rintro e w8 hrec
          obtain ⟨rfl, hW⟩ := rec_none H6.out.1 hrec
          have hb8 := H7.out.2.trans (hW.mono H7.out.2.size)
          have H8 := Lib.hid hb8
          clear hrec hW hb8
          go_wp2_with fail
          refine (jknown_walk Ks _ (H.out.1.below H8.out hpos)).mono ?_
          rintro e w9 ⟨rfl, hW⟩
          have H9 := Lib.hid (H8.out.trans (hW.mono H8.out.size))
          clear hW
          go_wp2_with fail
          go_ret
          exact ⟨rfl, H9.out⟩
        · have hga := hS6.keep _ _ _ (by decide) (by simp; omega) H5.out.2.1
          have hbw := H5.out.2.2.1.trans hS6.below
          have hsz := hS6.size
          have hGl := hG6.lt
          have H6 := Lib.hid (And.intro hdn (And.intro hleft (And.intro hI6 (And.intro hG6 (And.intro hga hbw)))))
          clear hdn hleft hI6 hG6 hS6 hga hbw
          go_wp2_with fail
          refine (make_tbl _).mono ?_
          rintro e w7 ⟨rfl, hW⟩
          have H7 := Lib.hid (And.intro (H6.out.2.2.2.2.1.below hW H6.out.2.2.2.2.1.lt) (And.intro (H6.out.2.2.1.below hW) (And.intro (H6.out.2.2.2.1.below hW hGl) (H6.out.2.2.2.2.2.trans (hW.mono H6.out.2.2.2.2.2.size)))))
          have hs7 := hW.size
          clear hW
          go_wp2_with fail
          refine (rrecover_any _ (fun x => x = w1.heap.size) w1.heap.size 0 N N i j all (Bts.whole H7.out.1 (.inl rfl) rfl H2.out.1 (by omega)) HNN.out.symm (Nat.le_refl _) (by omega) (by omega) hjn hj2 (by omega) HN.out.2.2.2).mono ?_
          rw [HS.out]
          rintro e w8 hrec
          obtain ⟨⟨v, rfl, hv⟩, hW⟩ := rec_left H6.out.1 H6.out.2.1 hrec
          have hdl : (dataS S' j (i - j - 1)).length = 64 * (i - j - 1) := dataS_length fun k hk => H7.out.2.1.sec (by omega)
          obtain ⟨dl, hdle⟩ : ∃ dl, (dataS S' j (i - j - 1)).length = dl := ⟨_, rfl⟩
          obtain ⟨Pv, cv, rfl, hcv1, hcv2⟩ := hv.form
          rw [hdle] at hcv1 hv ⊢
          have hb8 := H7.out.2.2.2.trans (hW.mono H7.out.2.2.2.size)
          have hs8 := hW.size
          have H8 := Lib.hid (And.intro hv (And.intro (H7.out.2.1.below hW) (And.intro (H7.out.2.2.1.below hW H7.out.2.2.1.lt) (And.intro hb8 hdle))))
          clear hrec hW hb8 hv hdl hdle
          go_wp2_with (first
            | (go_at_call 15; refine (done_any H8.out.2.2.1).mono ?_; rintro e w9 ⟨rfl, rfl⟩)
            | (go_at_call 16; refine (redone_any H8.out.2.2.1).mono ?_; rintro e w9 ⟨rfl, rfl⟩)
            | (go_at_call 18; refine (data_of H8.out.2.1 H8.out.2.2.1 hjn (by omega)).mono ?_; rintro e w9 ⟨u, rfl, hu, hW⟩; obtain ⟨Pu, cu, rfl, _, _⟩ := hu.form; have H9 := Lib.hid (And.intro hu hW); clear hu hW)
            | (go_at_call 17; refine (same_bts (b := true) H9.out.1 (H8.out.1.below H9.out.2) (by simp)).mono ?_; rintro e w10 ⟨rfl, hW⟩; have H10 := Lib.hid (below_of H9.out.2 hW); clear hW))
          have hs10 := H10.out.size
          have hbw10 := H8.out.2.2.2.1.trans (H10.out.mono H8.out.2.2.2.1.size)
          have HW := Lib.hid hbw10
          clear hbw10
          refine (writes_idle (H8.out.2.1.below H10.out).calm).mono ?_
          rintro e w11 ⟨rfl, rfl⟩
          go_wp2_with fail
          refine (open_again (H8.out.2.1.below H10.out) (by omega) (H.out.1.below HW.out hpos) hpos hjn hj2 (by omega) HN.out.2.2.2 H6.out.2.1).mono ?_
          rintro e w11 ⟨rfl, hI, hG, hS⟩
          have hv11 := (H8.out.1.below H10.out).stp hS (by intro g hg; simp only [List.mem_cons, List.not_mem_nil, or_false, not_or]; rcases hg with rfl | hg <;> omega)
          have H11 := Lib.hid (And.intro hI (And.intro hG (And.intro hv11 (HW.out.trans hS.below))))
          clear hI hG hS hv11
          go_wp2_with (first
            | (go_at_call 14; refine (jknown_walk Ks _ (H.out.1.below H11.out.2.2.2 hpos)).mono ?_; rintro e w12 ⟨rfl, hW⟩; have H12 := Lib.hid (And.intro (H11.out.1.below hW) (And.intro (H11.out.2.1.below hW H11.out.2.1.lt) (And.intro (H11.out.2.2.1.below hW) (H11.out.2.2.2.trans (hW.mono H11.out.2.2.2.size))))); clear hW)
            | (go_at_call 15; refine (done_any H12.out.2.1).mono ?_; rintro e w9 ⟨rfl, rfl⟩)
            | (go_at_call 16; refine (redone_any H12.out.2.1).mono ?_; rintro e w9 ⟨rfl, rfl⟩)
            | (go_at_call 19; refine (writes_idle H12.out.1.calm).mono ?_; rintro e w13 ⟨rfl, rfl⟩)
            | (go_at_call 18; refine (data_of H12.out.1 H12.out.2.1 hjn (by omega)).mono ?_; rintro e w13 ⟨u2, rfl, hu, hW⟩; obtain ⟨Pz, cz, rfl, _, _⟩ := hu.form; have H13 := Lib.hid (And.intro hu hW); clear hu hW)
            | (go_at_call 17; refine (same_bts (b := true) H13.out.1 (H12.out.2.2.1.below H13.out.2) (by simp)).mono ?_; rintro e w14 ⟨rfl, hW⟩; have H14 := Lib.hid (below_of H13.out.2 hW); clear hW))
          go_ret
          exact ⟨rfl, H12.out.2.2.2.trans (H14.out.mono H12.out.2.2.2.size)⟩
end Go.Proofs.YtfkdpndcoegfpaaGreatDoor
end

/-
  WalOpens: for every input the law returns true, and the arguments read as they read: its card, tied to the program's text. Condition: the listed variable reads as its initialiser lays it.
-/

section
set_option linter.unusedSimpArgs false
set_option linter.unusedVariables false
set_option maxRecDepth 100000
namespace Go.Proofs.YtfkdpndcoegfpaaGreatDoor.walOpens
open Go.ChangeShapes Go.WideShapes Go.ChangeAt Go.RowKit

set_option maxRecDepth 100000 in
theorem contract (H : Type) (enc : TypeId × Value → H) (W : World) (base : Nat) (args : Array Value) (ds gs : List (DataW H)) (before : List MemPlace)
    (hval : ∀ (j : Nat) t v, Tryz.f3.params[j]? = some t → args[j]? = some v → Value.okWide Tryz.prog W .any base t v)
    (hW : DataW.Whole enc Tryz.prog Tryz.f3.params.toList Rows.walOpensSpec.vars false W args.toList ds gs before) (hL : laidMetH Tryz.prog Rows.walOpensRow.laid W) :
    Calls Tryz.prog 3 args W fun e W' => ∃ v, e = .returned v ∧ Rows.walOpensSpec.post enc Tryz.prog Tryz.f3 false true false false W args v W' := by
  have hW' := hW
  obtain ⟨p, q, hA0, hV, rfl, hfz, hnd⟩ := hW
  have hA : DataW.TrodAll enc Tryz.prog W 0 (fun _ => true) true Tryz.f3.params.toList args.toList ds p := hA0
  rw [Tryz.params3] at hA hval
  obtain ⟨v0, vs0, d0, ds0, p0, q0, hargs, rfl, rfl, h0, r0⟩ := trodAll_cons hA
  obtain ⟨v1, vs1, d1, ds1, p1, q1, rfl, rfl, rfl, h1, r1⟩ := trodAll_cons r0
  obtain ⟨v2, vs2, d2, ds2, p2, q2, rfl, rfl, rfl, h2, r2⟩ := trodAll_cons r1
  obtain ⟨rfl, rfl, rfl⟩ := trodAll_nil r2
  obtain rfl : args = #[v0, v1, v2] := by cases args; simp_all
  obtain ⟨rfl, rfl⟩ := trodVars_none hV
  have k0 := h0
  have k1 := h1
  have k2 := h2
  have lt0 : ∀ x ∈ p0, x.block < W.heap.size := by obtain ⟨m, hm⟩ := k0; exact DataW.trod_lt m _ _ _ hm
  have lt1 : ∀ x ∈ p1, x.block < W.heap.size := by obtain ⟨m, hm⟩ := k1; exact DataW.trod_lt m _ _ _ hm
  have lt2 : ∀ x ∈ p2, x.block < W.heap.size := by obtain ⟨m, hm⟩ := k2; exact DataW.trod_lt m _ _ _ hm
  clear hA0
  obtain ⟨a0, len0, cap0, rfl⟩ := okWide_slice Tryz.underlying22 (hval 0 22 v0 rfl rfl)
  obtain ⟨A0, n0, c0, bs0, e0, ht0⟩ : ∃ A n c bs, Value.slice a0 len0 cap0 = .slice A n c ∧ TxtN W W.heap.size A n c bs := by
    obtain ⟨fuel, hf⟩ := h0
    exact came_text (by simpa [Value.cells] using hf)
  cases e0
  obtain ⟨m1, rfl⟩ := okWide_int Tryz.underlying3 (hval 1 3 v1 rfl rfl)
  obtain ⟨m2, rfl⟩ := okWide_int Tryz.underlying3 (hval 2 3 v2 rfl rfl)
  refine (opens_walk W _ _ _ _ _ _ (roots_of hL) ht0 (by have h1 := ht0.txt.cap; have h2 := ht0.txt.capm; unfold maxLen at h2; omega)).mono fun e W' ⟨he, bel⟩ => ?_
  subst he
  exact ⟨_, rfl, _, _, _, [], _, [], hW', trodAll_mk1 (shut_bool Tryz.underlying4 _), (trodAll_cons_mk (Below.trod laidOut (by kernel_rfl) (of_decide_eq_true (by kernel_rfl)) k0 bel lt0) (trodAll_cons_mk (Below.trod laidOut (by kernel_rfl) (of_decide_eq_true (by kernel_rfl)) k1 bel lt1) (trodAll_cons_mk (Below.trod laidOut (by kernel_rfl) (of_decide_eq_true (by kernel_rfl)) k2 bel lt2) trodAll_mk0))), rfl, bel.frame _, fun h => by cases h⟩

theorem laid_met (os : Os) : laidMet Tryz.prog Rows.walOpensRow.laid ((laidWorld os).forCall (fun _ _ => 0) ⟨#[], #[.slice none 0 0, .int .i64 0, .int .i64 0], []⟩).memory :=
  laidMet_of_run' 8 (by kernel_rfl) (by kernel_rfl)
theorem reads (os : Os) {H : Type} (enc : TypeId × Value → H) : ∃ places, DataW.whole enc Tryz.prog ((laidWorld os).forCall (fun _ _ => 0) ⟨#[], #[.slice none 0 0, .int .i64 0, .int .i64 0], []⟩).memory Tryz.f3.params.toList Rows.walOpensSpec.vars false (#[.slice none 0 0, .int .i64 0, .int .i64 0] : Array Value).toList 8 = some ([.nil, .lit (.int .i64 0), .lit (.int .i64 0)], [], places) :=
  ⟨[], by kernel_rfl⟩

set_option maxRecDepth 100000 in
theorem lifted (os : Os) (started : os.Started) (H : Type) (enc : TypeId × Value → H) (F : Stop.Interp) :
    ReturnsInHanded {} Tryz.checked os 3 .any ((OpenSpec.ofChange Rows.walOpensSpec).preRow enc Tryz.prog Tryz.f3 Rows.walOpensRow.domain false Rows.walOpensRow.laid) (((OpenSpec.ofChange Rows.walOpensSpec).at F).post enc Tryz.prog Tryz.f3 false true false false) := by
  obtain ⟨places, hx⟩ := reads os enc
  refine returnsInHanded_of_row (C := Tryz.checked) (s := OpenSpec.ofChange Rows.walOpensSpec) own started (by kernel_rfl) Tryz.func3
    (witness_row_at (enc := enc) (C := Tryz.checked) false (laidWorld os) #[.slice none 0 0, .int .i64 0, .int .i64 0] rfl (by kernel_rfl) (by kernel_rfl) (by kernel_rfl)
      (OpenSpec.preRow_of_cond 8 hx (by kernel_rfl) (fun k hk => by cases hk) (by kernel_rfl) (laid_met os))) ?_
  intro W base args ds gs before hval hW _ _ _ hL _ _
  exact contract H enc W base args ds gs before hval hW hL

theorem said : Rows.WalOpensSaid :=
  OpenClaim.holds_of_cond 3 Tryz.f3 rfl rfl rfl rfl rfl rfl rfl ⟨rfl, rfl, rfl, rfl, rfl⟩ rfl rfl rfl rfl rfl (by kernel_rfl) Tryz.func3 (by kernel_rfl)
    (of_decide_eq_true (by kernel_rfl)) (by unfold Func.isWrapper; first | (rw [if_pos (by decide +kernel)]; kernel_rfl) | (rw [if_neg (by decide +kernel)]; exact ⟨rfl, rfl⟩))
    (fun os started H enc _ F => by rw [OpenClaim.pre_eq_preRow]; exact lifted os started H enc F)

theorem plain (f : FuncId) (fn : Func) (hf : Tryz.pinned.checked.prog.funcNamed "creel/creellaw04.WalOpens" = some f) (hfn : Tryz.pinned.checked.prog.funcs[f]? = some fn) :
    true = Tryz.pinned.checked.prog.looks [] ∧ ∀ (j : Nat) t, fn.params[j]? = some t → Tryz.pinned.checked.prog.wantsStandIn t = false := by
  obtain rfl : f = 3 := Option.some.inj ((show Tryz.prog.funcNamed "creel/creellaw04.WalOpens" = some 3 by kernel_rfl).symm.trans hf) |>.symm
  obtain rfl : fn = Tryz.f3 := (Option.some.inj (Tryz.func3.symm.trans hfn)).symm
  refine ⟨by kernel_rfl, fun j t ht => ?_⟩
  rw [Tryz.params3] at ht
  have hm : t ∈ [22, 3, 3] := by simpa using Array.mem_of_getElem? ht
  have hall : ([22, 3, 3].all fun u => !Tryz.prog.wantsStandIn u) = true := by kernel_rfl
  exact (show Tryz.prog.wantsStandIn t = false by simpa using List.all_eq_true.1 hall t hm)

end Go.Proofs.YtfkdpndcoegfpaaGreatDoor.walOpens
namespace Go.Proofs.YtfkdpndcoegfpaaGreatDoor
theorem WalOpens_holds : Rows.WalOpensCardSaid :=
  Claim7.holds_tied_plain_at .later [] _ _ _ _ walOpens.said (fun _ h => by cases h) (by kernel_rfl) (fun _ h => by cases h) walOpens_row_tie rfl ⟨rfl, rfl⟩ (by kernel_rfl) rfl walOpens.plain (by kernel_rfl)
end Go.Proofs.YtfkdpndcoegfpaaGreatDoor
end
