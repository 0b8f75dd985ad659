/-
  ModeCan, walked: for every stat, every who and every wants it returns true. Conditions: the list lies in memory; one cell of the library's table is as its initialiser lays it.
-/
import Derived.Test.YtobklbangjjocaaDoorMKnown
import Derived.Test.YtobklbangjjocaaDoorMRefuse
import Derived.Test.YtobklbangjjocaaDoorMRef
import Derived.Deep.RegionHeld3
import Derived.Deep.QuietTactic
import Derived.BigQuiet
set_option linter.unusedSimpArgs false
set_option linter.unusedVariables false
set_option maxRecDepth 100000
namespace Go.Proofs.YtobklbangjjocaaDoor
open Go.RowKit

theorem mcell {a b : World} {p : Addr} {v : Value} (h : a.cell? p = some v) (hb : Below a.heap.size a b) : b.cell? p = some v := (hb.cell (World.block_lt_of_cell? a p h)).trans h
theorem two_cells {a b : World} {p q : Nat} {k m o g : Int} (h : (a.cell? ⟨p, 0, none⟩ = some (.int .i64 k) ∧ a.cell? ⟨p, 1, none⟩ = some (.int .i64 m) ∧ a.cell? ⟨p, 2, none⟩ = some (.int .i64 o) ∧ a.cell? ⟨p, 3, none⟩ = some (.int .i64 g)) ∧
    a.cell? ⟨q, 0, none⟩ = some (.int .i64 k) ∧ a.cell? ⟨q, 1, none⟩ = some (.int .i64 m) ∧ a.cell? ⟨q, 2, none⟩ = some (.int .i64 o) ∧ a.cell? ⟨q, 3, none⟩ = some (.int .i64 g)) (hb : Below a.heap.size a b) :
    (b.cell? ⟨p, 0, none⟩ = some (.int .i64 k) ∧ b.cell? ⟨p, 1, none⟩ = some (.int .i64 m) ∧ b.cell? ⟨p, 2, none⟩ = some (.int .i64 o) ∧ b.cell? ⟨p, 3, none⟩ = some (.int .i64 g)) ∧
    b.cell? ⟨q, 0, none⟩ = some (.int .i64 k) ∧ b.cell? ⟨q, 1, none⟩ = some (.int .i64 m) ∧ b.cell? ⟨q, 2, none⟩ = some (.int .i64 o) ∧ b.cell? ⟨q, 3, none⟩ = some (.int .i64 g) :=
  ⟨⟨mcell h.1.1 hb, mcell h.1.2.1 hb, mcell h.1.2.2.1 hb, mcell h.1.2.2.2 hb⟩, mcell h.2.1 hb, mcell h.2.2.1 hb, mcell h.2.2.2.1 hb, mcell h.2.2.2.2 hb⟩
/-- Where the law's loop stands. -/
def AllAt (k m o g who group : Int) (ds : List Int) (w2 : World) (av iv : Value) (wr : World) : Prop :=
  ∃ (i : Nat) (b : Bool), i ≤ ds.length ∧ iv = .int .i64 i ∧ av = .bool b ∧ b = (refCanB k m o g who group 0 && (ds.take i).all fun x => refCanB k m o g who group x) ∧ Below w2.heap.size w2 wr
theorem all_snoc {p : Int → Bool} {x : Int} {l : List Int} {i : Nat} (hx : l[i]? = some x) : (l.take (i + 1)).all p = ((l.take i).all p && p x) := by
  rw [List.take_add_one, hx, List.all_append]
  simp
theorem refusal_r (w : World) {k m o g r : Int} (h : refuse k m o g = r) : Calls Tryd.prog 18 #[stv k m o g] w fun e w' => e = .returned (.int .i64 r) ∧ Below w.heap.size w w' := by
  have := refusal_any w k m o g
  rwa [h] at this
theorem rrefusal_r (w : World) {k m o g r : Int} (h : refuse k m o g = r) : Calls Tryd.prog 19 #[stv k m o g] w fun e w' => e = .returned (.int .i64 r) ∧ Below w.heap.size w w' := by
  have := rrefusal_any w k m o g
  rwa [h] at this
theorem safe_r (w : World) {k m o g r : Int} {b : Bool} (h : refuse k m o g = r) (hb : decide (r = 0) = b) : Calls Tryd.prog 20 #[stv k m o g] w fun e w' => e = .returned (.bool b) ∧ Below w.heap.size w w' := by
  have := safe_any w k m o g
  rwa [h, hb] at this
theorem check_r (w : World) {k m o g r : Int} (h : chk k m o g = r) : Calls Tryd.prog 16 #[stv k m o g] w fun e w' => e = .returned (.int .i64 r) ∧ Below w.heap.size w w' := by
  have := check_any w k m o g
  rwa [h] at this
theorem rcheck_r (w : World) {k m o g r : Int} (h : chk k m o g = r) : Calls Tryd.prog 17 #[stv k m o g] w fun e w' => e = .returned (.int .i64 r) ∧ Below w.heap.size w w' := by
  have := rcheck_any w k m o g
  rwa [h] at this
set_option maxRecDepth 100000 in
set_option maxHeartbeats 8000000 in
theorem mcan_small (w : World) (hz : Tz w) (k m o g who group : Int) (A : Option Addr) (len c : Nat) (ps : List Int) (hp : NIn w A len c ps) (h10 : len ≤ 10) :
    Calls Tryd.prog 4 #[stv k m o g, .int .i64 who, .int .i64 group, .slice A len c] w fun e w' => e = .returned (.bool true) ∧ Below w.heap.size w w' := by
  have HZ := Lib.hid (And.intro hz (mnew w (.cells #[.int .i64 k, .int .i64 m, .int .i64 o, .int .i64 g] 30)))
  have hcap := hp.cap
  obtain ⟨ds, hd⟩ : ∃ ds, NIn w A len c ds := ⟨_, hp.take len (by omega)⟩
  have HD := Lib.hid hd
  have HL := Lib.hid hd.len
  clear hd hz hp
  go_enter Tryd.func4, Tryd.ntmps4
  go_wp2_with fail
  with_reducible refine (to_any _ k m o g).mono ?_
  rintro e w1 ⟨rfl, h1⟩
  have X1 := (Box.new w 30 k m o g).below h1
  obtain ⟨s0, s1, s2, s3⟩ := X1.cells
  have hlt : w.heap.size < w1.heap.size := by have := h1.size; simp at this; omega
  have H1 := Lib.hid (And.intro (mthen HZ.out.2 h1) X1)
  clear h1 X1
  go_wp2_with fail
  with_reducible refine (rcan_any _ k m o g who group 0).mono ?_
  rintro e w2 ⟨rfl, h2⟩
  have H2 := Lib.hid (And.intro (mthen H1.out.1 (mthen (mnew _ _) h2)) (And.intro ((H1.out.2.below (mnew _ _)).below h2) ((Box.new w1 32 k m o g).below h2)))
  clear h2 s0 s1 s2 s3 hlt
  obtain ⟨r0, hr0⟩ : ∃ r0, r0 = refCanB k m o g who group 0 := ⟨_, rfl⟩
  rw [← hr0]
  have HR0 := Lib.hid hr0
  clear hr0
  go_wp2_with fail
  go_loopw [10, 11] (fun av iv wr => AllAt k m o g who group ds w2 av iv wr) (fun _ iv _ => len - (intOf iv).toNat)
  case atStart => exact ⟨0, r0, Nat.zero_le _, rfl, rfl, by rw [HR0.out]; simp, Below.refl _ _⟩
  case round =>
    obtain ⟨i, b, hi, rfl, rfl, hb, hbel⟩ := hrel
    have HN := Lib.hid (HD.out.below (H2.out.1.trans (hbel.mono H2.out.1.size)))
    have XS := H2.out.2.1.below hbel
    have XX := H2.out.2.2.below hbel
    obtain ⟨s0, s1, s2, s3⟩ := XS.cells
    by_cases hil : i < len
    · obtain ⟨q, oo, rfl, hq, hcl⟩ := HN.out.cells (by omega)
      obtain ⟨x, hx⟩ : ∃ x, ds[i]? = some x := ⟨_, List.getElem?_eq_getElem (by have := HL.out; omega)⟩
      have hcell := hcl i x hx
      have hs := all_snoc (p := fun x => refCanB k m o g who group x) hx
      have HK := Lib.hid (And.intro (show i + 1 ≤ ds.length by have := HL.out; omega) (And.intro hs (And.intro hb hbel)))
      clear hcl hx hi hb hs hbel XS XX hq
      cases b with
      | true =>
        go_wp2_with fail
        go_region_held3 (fun w' => w'.cell? ⟨w.heap.size, 0, none⟩ = some (.int .i64 k) ∧ w'.cell? ⟨w.heap.size, 1, none⟩ = some (.int .i64 m) ∧ w'.cell? ⟨w.heap.size, 2, none⟩ = some (.int .i64 o) ∧ w'.cell? ⟨w.heap.size, 3, none⟩ = some (.int .i64 g) ∧ w'.cell? ⟨q, oo + i, none⟩ = some (.int .i64 x))
          (first | exact ⟨f0, f1, f2, f3, f4⟩ | exact ⟨s0, s1, s2, s3, hcell⟩)
          (first
            | (go_at_call 14; refine (rcan_any _ k m o g who group x).mono ?_; rintro e w3 ⟨rfl, h3⟩; have f0 := mcell s0 ((mdrew _).trans h3); have f1 := mcell s1 ((mdrew _).trans h3); have f2 := mcell s2 ((mdrew _).trans h3); have f3 := mcell s3 ((mdrew _).trans h3); have f4 := mcell hcell ((mdrew _).trans h3); have H3 := Lib.hid ((mdrew wr).trans h3); clear h3))
        obtain ⟨rx, hrx⟩ : ∃ rx, rx = refCanB k m o g who group x := ⟨_, rfl⟩
        rw [← hrx]
        have HRX := Lib.hid hrx
        clear hrx f0 f1 f2 f3 f4
        cases rx
        all_goals
          go_wp2_with fail
          go_roundw
          case rel => exact ⟨i + 1, _, HK.out.1, by go_num, rfl, by rw [HK.out.2.1, ← HRX.out, ← Bool.and_assoc, ← HK.out.2.2.1]; rfl, HK.out.2.2.2.trans (H3.out.mono HK.out.2.2.2.size)⟩
          case measure => simp [intOf]; omega
      | false =>
        go_wp2_with fail
        go_quiet (fail)
        go_wp2_with fail
        go_roundw
        case rel => exact ⟨i + 1, false, HK.out.1, by go_num, rfl, by rw [HK.out.2.1, ← Bool.and_assoc, ← HK.out.2.2.1]; rfl, HK.out.2.2.2.trans ((mdrewN _ _).mono HK.out.2.2.2.size)⟩
        case measure => simp [intOf]; omega
    · have hbc : canB k m o g who group ds = b := by
        rw [hb, List.take_of_length_le (by have := HL.out; omega), can_ref HD.out.bound]
      have y0 := And.intro XS.cells XX.cells
      have HB := Lib.hid (And.intro hbc hbel)
      clear hi hb hbel hbc s0 s1 s2 s3
      obtain ⟨z, hz⟩ : ∃ z, chk k m o g = z := ⟨_, rfl⟩
      obtain ⟨r, hr⟩ : ∃ r, refuse k m o g = r := ⟨_, rfl⟩
      obtain ⟨t, ht⟩ : ∃ t, decide (r = 0) = t := ⟨_, rfl⟩
      have ht2 : (r == 0) = t := by rw [← ht]; rw [Bool.eq_iff_iff]; simp
      have HZR := Lib.hid (And.intro hz (And.intro hr ht))
      have Y0 := Lib.hid y0
      have B0 := Lib.hid (HZ.out.1.below (H2.out.1.trans ((HB.out.2.trans ((mdrew _).mono HB.out.2.size)).mono H2.out.1.size)))
      clear hz hr XS XX y0
      go_wp2_with fail
      go_region_held3 (fun w' => (w'.cell? ⟨w.heap.size, 0, none⟩ = some (.int .i64 k) ∧ w'.cell? ⟨w.heap.size, 1, none⟩ = some (.int .i64 m) ∧ w'.cell? ⟨w.heap.size, 2, none⟩ = some (.int .i64 o) ∧ w'.cell? ⟨w.heap.size, 3, none⟩ = some (.int .i64 g)) ∧ w'.cell? ⟨w1.heap.size, 0, none⟩ = some (.int .i64 k) ∧ w'.cell? ⟨w1.heap.size, 1, none⟩ = some (.int .i64 m) ∧ w'.cell? ⟨w1.heap.size, 2, none⟩ = some (.int .i64 o) ∧ w'.cell? ⟨w1.heap.size, 3, none⟩ = some (.int .i64 g))
        (first | exact Y8.out | exact Y7.out | exact Y6.out | exact Y5.out | exact Y4.out | exact Y3.out | exact Y2.out | exact Y1.out | exact Y0.out)
        (first
          | (go_at_call 19; have Y7' := Y7; refine (rrefusal_r _ HZR.out.2.1).mono ?_; rintro e v8 ⟨rfl, h8⟩; have Y8 := Lib.hid (two_cells Y7.out h8); have H8 := Lib.hid (mthen H7.out h8); clear h8)
          | (go_at_call 20; refine (safe_r _ HZR.out.2.1 HZR.out.2.2).mono ?_; rintro e v7 ⟨rfl, h7⟩; have Y7 := Lib.hid (two_cells Y6.out h7); have H7 := Lib.hid (mthen H6.out h7); clear h7)
          | (go_at_call 19; refine (rrefusal_r _ HZR.out.2.1).mono ?_; rintro e v6 ⟨rfl, h6⟩; have Y6 := Lib.hid (two_cells Y5.out h6); have H6 := Lib.hid (mthen H5.out h6); clear h6)
          | (go_at_call 18; refine (refusal_r _ HZR.out.2.1).mono ?_; rintro e v5 ⟨rfl, h5⟩; have Y5 := Lib.hid (two_cells Y4.out h5); have H5 := Lib.hid (mthen H4.out h5); clear h5)
          | (go_at_call 17; refine (rcheck_r _ HZR.out.1).mono ?_; rintro e v4 ⟨rfl, h4⟩; have Y4 := Lib.hid (two_cells Y3.out h4); have H4 := Lib.hid (mthen H3.out h4); clear h4)
          | (go_at_call 16; refine (check_r _ HZR.out.1).mono ?_; rintro e v3 ⟨rfl, h3⟩; have Y3 := Lib.hid (two_cells Y2.out h3); have H3 := Lib.hid (mthen HV2.out h3); clear h3)
          | (go_at_call 15; refine (can_of _ k m o g who group _ _ _ ds (HN.out.below HV1.out) b HB.out.1).mono ?_; rintro e v2 ⟨rfl, h2⟩; have Y2 := Lib.hid (two_cells Y1.out h2); have HV2 := Lib.hid (mthen HV1.out h2); clear h2)
          | (go_at_call 12; refine (mknown_walk _ B0.out).mono ?_; rintro e v1 ⟨rfl, h1⟩; have Y1 := Lib.hid (two_cells Y0.out ((mdrew _).trans h1)); have HV1 := Lib.hid ((mdrew wr).trans h1); clear h1))
      go_wp2_with fail
      go_ret
      exact ⟨ret_bool (by cases b <;> cases t <;> simp), H2.out.1.trans ((HB.out.2.trans (H8.out.mono HB.out.2.size)).mono H2.out.1.size)⟩
set_option maxRecDepth 100000 in
set_option maxHeartbeats 8000000 in
theorem mcan_big (w : World) (hz : Tz w) (k m o g who group : Int) (A : Option Addr) (len c : Nat) (ps : List Int) (hp : NIn w A len c ps) (h10 : 10 < len) :
    Calls Tryd.prog 4 #[stv k m o g, .int .i64 who, .int .i64 group, .slice A len c] w fun e w' => e = .returned (.bool true) ∧ Below w.heap.size w w' := by
  have HZ := Lib.hid (And.intro hz (mnew w (.cells #[.int .i64 k, .int .i64 m, .int .i64 o, .int .i64 g] 30)))
  have hcap := hp.cap
  obtain ⟨ds, hd⟩ : ∃ ds, NIn w A 10 c ds := ⟨_, hp.take 10 (by omega)⟩
  have HD := Lib.hid hd
  have HL := Lib.hid hd.len
  clear hd hz hp
  go_enter Tryd.func4, Tryd.ntmps4
  go_wp2_with fail
  with_reducible refine (to_any _ k m o g).mono ?_
  rintro e w1 ⟨rfl, h1⟩
  have X1 := (Box.new w 30 k m o g).below h1
  obtain ⟨s0, s1, s2, s3⟩ := X1.cells
  have hlt : w.heap.size < w1.heap.size := by have := h1.size; simp at this; omega
  have H1 := Lib.hid (And.intro (mthen HZ.out.2 h1) X1)
  clear h1 X1
  go_wp2_with fail
  with_reducible refine (rcan_any _ k m o g who group 0).mono ?_
  rintro e w2 ⟨rfl, h2⟩
  have H2 := Lib.hid (And.intro (mthen H1.out.1 (mthen (mnew _ _) h2)) (And.intro ((H1.out.2.below (mnew _ _)).below h2) ((Box.new w1 32 k m o g).below h2)))
  clear h2 s0 s1 s2 s3 hlt
  obtain ⟨r0, hr0⟩ : ∃ r0, r0 = refCanB k m o g who group 0 := ⟨_, rfl⟩
  rw [← hr0]
  have HR0 := Lib.hid hr0
  clear hr0
  go_wp2_with fail
  go_loopw [10, 11] (fun av iv wr => AllAt k m o g who group ds w2 av iv wr) (fun _ iv _ => 10 - (intOf iv).toNat)
  case atStart => exact ⟨0, r0, Nat.zero_le _, rfl, rfl, by rw [HR0.out]; simp, Below.refl _ _⟩
  case round =>
    obtain ⟨i, b, hi, rfl, rfl, hb, hbel⟩ := hrel
    have HN := Lib.hid (HD.out.below (H2.out.1.trans (hbel.mono H2.out.1.size)))
    have XS := H2.out.2.1.below hbel
    have XX := H2.out.2.2.below hbel
    obtain ⟨s0, s1, s2, s3⟩ := XS.cells
    by_cases hil : i < 10
    · obtain ⟨q, oo, rfl, hq, hcl⟩ := HN.out.cells (by omega)
      obtain ⟨x, hx⟩ : ∃ x, ds[i]? = some x := ⟨_, List.getElem?_eq_getElem (by have := HL.out; omega)⟩
      have hcell := hcl i x hx
      have hs := all_snoc (p := fun x => refCanB k m o g who group x) hx
      have HK := Lib.hid (And.intro (show i + 1 ≤ ds.length by have := HL.out; omega) (And.intro hs (And.intro hb hbel)))
      clear hcl hx hi hb hs hbel XS XX hq
      cases b with
      | true =>
        go_wp2_with fail
        go_region_held3 (fun w' => w'.cell? ⟨w.heap.size, 0, none⟩ = some (.int .i64 k) ∧ w'.cell? ⟨w.heap.size, 1, none⟩ = some (.int .i64 m) ∧ w'.cell? ⟨w.heap.size, 2, none⟩ = some (.int .i64 o) ∧ w'.cell? ⟨w.heap.size, 3, none⟩ = some (.int .i64 g) ∧ w'.cell? ⟨q, oo + i, none⟩ = some (.int .i64 x))
          (first | exact ⟨f0, f1, f2, f3, f4⟩ | exact ⟨s0, s1, s2, s3, hcell⟩)
          (first
            | (go_at_call 14; refine (rcan_any _ k m o g who group x).mono ?_; rintro e w3 ⟨rfl, h3⟩; have f0 := mcell s0 ((mdrew _).trans h3); have f1 := mcell s1 ((mdrew _).trans h3); have f2 := mcell s2 ((mdrew _).trans h3); have f3 := mcell s3 ((mdrew _).trans h3); have f4 := mcell hcell ((mdrew _).trans h3); have H3 := Lib.hid ((mdrew wr).trans h3); clear h3))
        obtain ⟨rx, hrx⟩ : ∃ rx, rx = refCanB k m o g who group x := ⟨_, rfl⟩
        rw [← hrx]
        have HRX := Lib.hid hrx
        clear hrx f0 f1 f2 f3 f4
        cases rx
        all_goals
          go_wp2_with fail
          go_roundw
          case rel => exact ⟨i + 1, _, HK.out.1, by go_num, rfl, by rw [HK.out.2.1, ← HRX.out, ← Bool.and_assoc, ← HK.out.2.2.1]; rfl, HK.out.2.2.2.trans (H3.out.mono HK.out.2.2.2.size)⟩
          case measure => simp [intOf]; omega
      | false =>
        go_wp2_with fail
        go_quiet (fail)
        go_wp2_with fail
        go_roundw
        case rel => exact ⟨i + 1, false, HK.out.1, by go_num, rfl, by rw [HK.out.2.1, ← Bool.and_assoc, ← HK.out.2.2.1]; rfl, HK.out.2.2.2.trans ((mdrewN _ _).mono HK.out.2.2.2.size)⟩
        case measure => simp [intOf]; omega
    · have hbc : canB k m o g who group ds = b := by
        rw [hb, List.take_of_length_le (by have := HL.out; omega), can_ref HD.out.bound]
      have y0 := And.intro XS.cells XX.cells
      have HB := Lib.hid (And.intro hbc hbel)
      clear hi hb hbel hbc s0 s1 s2 s3
      obtain ⟨z, hz⟩ : ∃ z, chk k m o g = z := ⟨_, rfl⟩
      obtain ⟨r, hr⟩ : ∃ r, refuse k m o g = r := ⟨_, rfl⟩
      obtain ⟨t, ht⟩ : ∃ t, decide (r = 0) = t := ⟨_, rfl⟩
      have ht2 : (r == 0) = t := by rw [← ht]; rw [Bool.eq_iff_iff]; simp
      have HZR := Lib.hid (And.intro hz (And.intro hr ht))
      have Y0 := Lib.hid y0
      have B0 := Lib.hid (HZ.out.1.below (H2.out.1.trans ((HB.out.2.trans ((mdrew _).mono HB.out.2.size)).mono H2.out.1.size)))
      clear hz hr XS XX y0
      go_wp2_with fail
      go_region_held3 (fun w' => (w'.cell? ⟨w.heap.size, 0, none⟩ = some (.int .i64 k) ∧ w'.cell? ⟨w.heap.size, 1, none⟩ = some (.int .i64 m) ∧ w'.cell? ⟨w.heap.size, 2, none⟩ = some (.int .i64 o) ∧ w'.cell? ⟨w.heap.size, 3, none⟩ = some (.int .i64 g)) ∧ w'.cell? ⟨w1.heap.size, 0, none⟩ = some (.int .i64 k) ∧ w'.cell? ⟨w1.heap.size, 1, none⟩ = some (.int .i64 m) ∧ w'.cell? ⟨w1.heap.size, 2, none⟩ = some (.int .i64 o) ∧ w'.cell? ⟨w1.heap.size, 3, none⟩ = some (.int .i64 g))
        (first | exact Y8.out | exact Y7.out | exact Y6.out | exact Y5.out | exact Y4.out | exact Y3.out | exact Y2.out | exact Y1.out | exact Y0.out)
        (first
          | (go_at_call 19; have Y7' := Y7; refine (rrefusal_r _ HZR.out.2.1).mono ?_; rintro e v8 ⟨rfl, h8⟩; have Y8 := Lib.hid (two_cells Y7.out h8); have H8 := Lib.hid (mthen H7.out h8); clear h8)
          | (go_at_call 20; refine (safe_r _ HZR.out.2.1 HZR.out.2.2).mono ?_; rintro e v7 ⟨rfl, h7⟩; have Y7 := Lib.hid (two_cells Y6.out h7); have H7 := Lib.hid (mthen H6.out h7); clear h7)
          | (go_at_call 19; refine (rrefusal_r _ HZR.out.2.1).mono ?_; rintro e v6 ⟨rfl, h6⟩; have Y6 := Lib.hid (two_cells Y5.out h6); have H6 := Lib.hid (mthen H5.out h6); clear h6)
          | (go_at_call 18; refine (refusal_r _ HZR.out.2.1).mono ?_; rintro e v5 ⟨rfl, h5⟩; have Y5 := Lib.hid (two_cells Y4.out h5); have H5 := Lib.hid (mthen H4.out h5); clear h5)
          | (go_at_call 17; refine (rcheck_r _ HZR.out.1).mono ?_; rintro e v4 ⟨rfl, h4⟩; have Y4 := Lib.hid (two_cells Y3.out h4); have H4 := Lib.hid (mthen H3.out h4); clear h4)
          | (go_at_call 16; refine (check_r _ HZR.out.1).mono ?_; rintro e v3 ⟨rfl, h3⟩; have Y3 := Lib.hid (two_cells Y2.out h3); have H3 := Lib.hid (mthen HV2.out h3); clear h3)
          | (go_at_call 15; refine (can_of _ k m o g who group _ _ _ ds (HN.out.below HV1.out) b HB.out.1).mono ?_; rintro e v2 ⟨rfl, h2⟩; have Y2 := Lib.hid (two_cells Y1.out h2); have HV2 := Lib.hid (mthen HV1.out h2); clear h2)
          | (go_at_call 12; refine (mknown_walk _ B0.out).mono ?_; rintro e v1 ⟨rfl, h1⟩; have Y1 := Lib.hid (two_cells Y0.out ((mdrew _).trans h1)); have HV1 := Lib.hid ((mdrew wr).trans h1); clear h1))
      go_wp2_with fail
      go_ret
      exact ⟨ret_bool (by cases b <;> cases t <;> simp), H2.out.1.trans ((HB.out.2.trans (H8.out.mono HB.out.2.size)).mono H2.out.1.size)⟩
theorem mcan_walk (w : World) (hz : Tz w) (k m o g who group : Int) (A : Option Addr) (len c : Nat) (ps : List Int) (hp : NIn w A len c ps) :
    Calls Tryd.prog 4 #[stv k m o g, .int .i64 who, .int .i64 group, .slice A len c] w fun e w' => e = .returned (.bool true) ∧ Below w.heap.size w w' := by
  rcases Nat.lt_or_ge 10 len with h | h
  · exact mcan_big w hz k m o g who group A len c ps hp h
  · exact mcan_small w hz k m o g who group A len c ps hp h
end Go.Proofs.YtobklbangjjocaaDoor
