/-
  The document's turn: the words behind a block. Conditions: 64 bytes, each cell there; the table and the words are of 32 bits.
-/
import Derived.Test.YtlpljedacohngaaGreatDoorM8
import Derived.Deep.Cut
import Derived.StillTailTactics
import Derived.Test.YtlpljedacohngaaGreatDoorM5
section
set_option maxRecDepth 100000
set_option linter.unusedSimpArgs false
set_option linter.unusedVariables false
namespace Go.Proofs.YtlpljedacohngaaGreatDoor
open Go.RowKit

/-- What the document's turn keeps in memory. -/
structure RT (B : Nat) (w0 w : World) (H0 ks : List B32) (s : S8) (sch : List B32) : Prop where
  tab : Blk w B 33 (Wi H0 ++ Wi ks)
  wds : Blk w (B + 1) 30 (Wi s.list)
  out : Blk w (B + 2) 30 (List.replicate 8 (.int .i64 0))
  sch : Blk w (B + 3) 31 (parti sch)
  bel : Below B w0 w
theorem RT.start (w : World) (H0 ks : List B32) (s : S8) : RT w.heap.size w ((((w.alloc (.cells (Wi H0 ++ Wi ks).toArray 33)).alloc (.cells (Wi s.list).toArray 30)).alloc (.cells (List.replicate 8 (Value.int .i64 0)).toArray 30)).alloc (.cells (List.replicate 64 (Value.int .i64 0)).toArray 31)) H0 ks s [] := by
  have hb := Below.refl w.heap.size w
  have b0 := Blk.new w 33 (Wi H0 ++ Wi ks)
  have b1 := Blk.new (w.alloc (.cells (Wi H0 ++ Wi ks).toArray 33)) 30 (Wi s.list)
  have b2 := Blk.new ((w.alloc (.cells (Wi H0 ++ Wi ks).toArray 33)).alloc (.cells (Wi s.list).toArray 30)) 30 (List.replicate 8 (Value.int .i64 0))
  have b3 := Blk.new (((w.alloc (.cells (Wi H0 ++ Wi ks).toArray 33)).alloc (.cells (Wi s.list).toArray 30)).alloc (.cells (List.replicate 8 (Value.int .i64 0)).toArray 30)) 31 (List.replicate 64 (Value.int .i64 0))
  simp only [World.size_alloc] at b1 b2 b3
  exact ⟨((b0.alloc _).alloc _).alloc _, (b1.alloc _).alloc _, b2.alloc _, b3, (((hb.alloc (Nat.le_refl _) _).alloc (by simp) _).alloc (by simp; omega) _).alloc (by simp; omega) _⟩
theorem RT.drewN {B : Nat} {w0 w : World} {H0 ks : List B32} {s : S8} {sch : List B32} (h : RT B w0 w H0 ks s sch) (n : Nat) : RT B w0 (w.drewN n) H0 ks s sch :=
  ⟨h.tab.drewN n, h.wds.drewN n, h.out.drewN n, h.sch.drewN n, h.bel.trans ⟨rfl, rfl, rfl, Nat.le_refl _, fun _ _ => rfl⟩⟩
theorem RT.drew {B : Nat} {w0 w : World} {H0 ks : List B32} {s : S8} {sch : List B32} (h : RT B w0 w H0 ks s sch) : RT B w0 w.drew H0 ks s sch :=
  ⟨h.tab.drew, h.wds.drew, h.out.drew, h.sch.drew, h.bel.drew⟩
theorem RT.put {B : Nat} {w0 w : World} {H0 ks : List B32} {s : S8} {sch : List B32} (h : RT B w0 w H0 ks s sch) (k : Nat) (hk : sch.length = k) (hk2 : k < 64) (x : B32) : RT B w0 (w.setCell ⟨B + 3, k, none⟩ (.int .i64 (nw x))) H0 ks s (sch ++ [x]) := by
  subst hk
  refine ⟨h.tab.far (p := ⟨B + 3, _, none⟩) (by simp) _, h.wds.far (p := ⟨B + 3, _, none⟩) (by simp) _, h.out.far (p := ⟨B + 3, _, none⟩) (by simp) _, ?_, h.bel.setCell (p := ⟨B + 3, _, none⟩) (by simp) _⟩
  have := h.sch.set_ sch.length (.int .i64 (nw x))
  rw [parti_set hk2] at this
  exact this

theorem sum6_mod (d h u v k x : B32) : (nw d + (nw h + nw u + nw v + nw k + nw x)) % 4294967296 = nw (d + (h + u + v + k + x)) := by
  rw [mod_nw, BitVec.ofInt_add, BitVec.ofInt_add, BitVec.ofInt_add, BitVec.ofInt_add, BitVec.ofInt_add, ofInt_nw, ofInt_nw, ofInt_nw, ofInt_nw, ofInt_nw, ofInt_nw]
theorem sum7_mod (h u v k x y z : B32) : (nw h + nw u + nw v + nw k + nw x + (nw y + nw z)) % 4294967296 = nw (h + u + v + k + x + (y + z)) := by
  rw [mod_nw, BitVec.ofInt_add, BitVec.ofInt_add, BitVec.ofInt_add, BitVec.ofInt_add, BitVec.ofInt_add, BitVec.ofInt_add, ofInt_nw, ofInt_nw, ofInt_nw, ofInt_nw, ofInt_nw, ofInt_nw, ofInt_nw]
theorem sum2_mod (h u : B32) : (nw h + nw u) % 4294967296 = nw (h + u) := by
  rw [mod_nw, BitVec.ofInt_add, ofInt_nw, ofInt_nw]
theorem add8_comm (s t : S8) : add8 s t = add8 t s := by
  unfold add8
  simp only [BitVec.add_comm]
theorem mixi_cell {w : World} {p j : Nat} {s t : S8} (h : Blk w p 30 (Wi (mix8 s t j))) (hj : j < 8) : w.cell? ⟨p, j, none⟩ = some (.int .i64 (nw (s.list.getD j 0))) := by
  rw [h.cell, Wi_get, mix8_get s t hj]
  rfl
theorem mixi_step {w : World} {p j : Nat} {s t : S8} (h : Blk w p 30 (Wi (mix8 s t j))) (hj : j < 8) : Blk (w.setCell ⟨p, j, none⟩ (.int .i64 (nw (s.list.getD j 0 + t.list.getD j 0)))) p 30 (Wi (mix8 s t (j + 1))) := by
  have := h.set_ j (.int .i64 (nw (s.list.getD j 0 + t.list.getD j 0)))
  rw [Wi_set, mix8_set s t hj] at this
  exact this
theorem RT.alloc {B : Nat} {w0 w : World} {H0 ks : List B32} {s : S8} {sch : List B32} (h : RT B w0 w H0 ks s sch) (ob : Obj) : RT B w0 (w.alloc ob) H0 ks s sch :=
  ⟨h.tab.alloc _, h.wds.alloc _, h.out.alloc _, h.sch.alloc _, h.bel.alloc (by have := h.sch.lt; omega) _⟩
theorem RT.only {B : Nat} {w0 w w' : World} {H0 ks : List B32} {s : S8} {sch : List B32} (h : RT B w0 w H0 ks s sch) {p : Nat} (hp : B + 4 ≤ p) (hO : Only [p] w w') : RT B w0 w' H0 ks s sch :=
  ⟨h.tab.only hO (by simp; omega), h.wds.only hO (by simp; omega), h.out.only hO (by simp; omega), h.sch.only hO (by simp; omega), h.bel.trans (hO.below (B := B) (by have := h.sch.lt; omega) (by simp; omega))⟩

/-- With the four pairs that the rounds turn. -/
structure RB (B : Nat) (w0 w : World) (H0 ks : List B32) (s : S8) (sch : List B32) (p0 p1 p2 p3 : Nat) (t : S8) : Prop where
  rt : RT B w0 w H0 ks s sch
  A : Blk w p0 105 (Wi [t.a, t.b])
  C : Blk w p1 105 (Wi [t.c, t.d])
  E : Blk w p2 105 (Wi [t.e, t.f])
  G : Blk w p3 105 (Wi [t.g, t.h])
structure Four (B p0 p1 p2 p3 : Nat) : Prop where
  b0 : B + 4 ≤ p0
  b1 : B + 4 ≤ p1
  b2 : B + 4 ≤ p2
  b3 : B + 4 ≤ p3
  d01 : p0 ≠ p1
  d02 : p0 ≠ p2
  d03 : p0 ≠ p3
  d12 : p1 ≠ p2
  d13 : p1 ≠ p3
  d23 : p2 ≠ p3
section
variable {B : Nat} {w0 w w' : World} {H0 ks : List B32} {s t : S8} {sch : List B32} {p0 p1 p2 p3 : Nat}
theorem RB.drewN (h : RB B w0 w H0 ks s sch p0 p1 p2 p3 t) (n : Nat) : RB B w0 (w.drewN n) H0 ks s sch p0 p1 p2 p3 t := ⟨h.rt.drewN n, h.A.drewN n, h.C.drewN n, h.E.drewN n, h.G.drewN n⟩
theorem RB.putG (h : RB B w0 w H0 ks s sch p0 p1 p2 p3 t) (f : Four B p0 p1 p2 p3) {x y : B32} (hb : Blk w' p3 105 (Wi [x, y])) (hO : Only [p3] w w') : RB B w0 w' H0 ks s sch p0 p1 p2 p3 { t with g := x, h := y } :=
  ⟨h.rt.only f.b3 hO, h.A.only hO (by have := f.d03; simp; omega), h.C.only hO (by have := f.d13; simp; omega), h.E.only hO (by have := f.d23; simp; omega), hb⟩
theorem RB.putE (h : RB B w0 w H0 ks s sch p0 p1 p2 p3 t) (f : Four B p0 p1 p2 p3) {x y : B32} (hb : Blk w' p2 105 (Wi [x, y])) (hO : Only [p2] w w') : RB B w0 w' H0 ks s sch p0 p1 p2 p3 { t with e := x, f := y } :=
  ⟨h.rt.only f.b2 hO, h.A.only hO (by have := f.d02; simp; omega), h.C.only hO (by have := f.d12; simp; omega), hb, h.G.only hO (by have := f.d23; simp; omega)⟩
theorem RB.putC (h : RB B w0 w H0 ks s sch p0 p1 p2 p3 t) (f : Four B p0 p1 p2 p3) {x y : B32} (hb : Blk w' p1 105 (Wi [x, y])) (hO : Only [p1] w w') : RB B w0 w' H0 ks s sch p0 p1 p2 p3 { t with c := x, d := y } :=
  ⟨h.rt.only f.b1 hO, h.A.only hO (by have := f.d01; simp; omega), hb, h.E.only hO (by have := f.d12; simp; omega), h.G.only hO (by have := f.d13; simp; omega)⟩
theorem RB.putA (h : RB B w0 w H0 ks s sch p0 p1 p2 p3 t) (f : Four B p0 p1 p2 p3) {x y : B32} (hb : Blk w' p0 105 (Wi [x, y])) (hO : Only [p0] w w') : RB B w0 w' H0 ks s sch p0 p1 p2 p3 { t with a := x, b := y } :=
  ⟨h.rt.only f.b0 hO, hb, h.C.only hO (by have := f.d01; simp; omega), h.E.only hO (by have := f.d02; simp; omega), h.G.only hO (by have := f.d03; simp; omega)⟩
theorem pair_cell {p : Nat} {x y : B32} (h : Blk w p 105 (Wi [x, y])) : w.cell? ⟨p, 0, none⟩ = some (.int .i64 (nw x)) ∧ w.cell? ⟨p, 1, none⟩ = some (.int .i64 (nw y)) := ⟨h.cell 0, h.cell 1⟩
end
def pairs (s : S8) : Nat → List Value
  | 0 => Wi [s.a, s.b]
  | 1 => Wi [s.c, s.d]
  | 2 => Wi [s.e, s.f]
  | _ => Wi [s.g, s.h]

theorem rt_cells {B : Nat} {w0 w : World} {H0 ks : List B32} {s : S8} {sch : List B32} (h : RT B w0 w H0 ks s sch) :
    w.cell? ⟨B + 1, 0, none⟩ = some (.int .i64 (nw s.a)) ∧ w.cell? ⟨B + 1, 1, none⟩ = some (.int .i64 (nw s.b)) ∧ w.cell? ⟨B + 1, 2, none⟩ = some (.int .i64 (nw s.c)) ∧ w.cell? ⟨B + 1, 3, none⟩ = some (.int .i64 (nw s.d)) ∧
    w.cell? ⟨B + 1, 4, none⟩ = some (.int .i64 (nw s.e)) ∧ w.cell? ⟨B + 1, 5, none⟩ = some (.int .i64 (nw s.f)) ∧ w.cell? ⟨B + 1, 6, none⟩ = some (.int .i64 (nw s.g)) ∧ w.cell? ⟨B + 1, 7, none⟩ = some (.int .i64 (nw s.h)) :=
  ⟨h.wds.cell 0, h.wds.cell 1, h.wds.cell 2, h.wds.cell 3, h.wds.cell 4, h.wds.cell 5, h.wds.cell 6, h.wds.cell 7⟩
theorem sum4_mod (a b c d : B32) : (nw a + nw b + nw c + nw d) % 4294967296 = nw (a + b + c + d) := by
  rw [mod_nw, BitVec.ofInt_add, BitVec.ofInt_add, BitVec.ofInt_add, ofInt_nw, ofInt_nw, ofInt_nw, ofInt_nw]

set_option linter.unusedSimpArgs false in
set_option maxHeartbeats 4000000 in
set_option maxRecDepth 100000 in
theorem refturn_any (w : World) (H0 ks : List B32) (hH : H0.length = 8) (hks : ks.length = 64) (s : S8) (g o c : Nat) (bs : List B8) (hcells : ∀ j, j < 64 → w.cell? ⟨g, o + j, none⟩ = some (.int .u8 (nb (bs.getD j 0)))) :
    Calls Tryz.prog 47 #[.agg (Wi H0 ++ Wi ks).toArray, .agg (Wi s.list).toArray, .slice (some ⟨g, o, none⟩) 64 c] w fun e w' => e = .returned (.agg (Wi (turn8 ks s bs).list).toArray) ∧ Below w.heap.size w w' := by
  have hg : g < w.heap.size := World.block_lt_of_cell? w _ (hcells 0 (by omega))
  have HC := Lib.hid hcells
  have h0 := Lib.hid (RT.start w H0 ks s)
  clear hcells
  go_enter Tryz.func47, Tryz.ntmps47
  go_wp2_with fail
  go_loopw [8] (fun i wr => ∃ k : Nat, k ≤ 64 ∧ i = .int .i64 k ∧ RT w.heap.size w wr H0 ks s (schedN bs k)) (fun i _ => 64 - (intOf i).toNat)
  case atStart => exact ⟨0, by omega, rfl, h0.out⟩
  case round =>
    clear h0
    obtain ⟨k, hk, rfl, hr⟩ := hrel
    have hlk := schedN_length bs k
    have HR := Lib.hid hr
    clear hr
    by_cases hk64 : k < 64
    · by_cases hk16 : k < 16
      · have f0 : wr.cell? ⟨g, o + 4 * k, none⟩ = some (.int .u8 (nb (bs.getD (4 * k) 0))) := (HR.out.bel.cell hg).trans (HC.out _ (by omega))
        have f1 : wr.cell? ⟨g, o + (4 * k + 1), none⟩ = some (.int .u8 (nb (bs.getD (4 * k + 1) 0))) := (HR.out.bel.cell hg).trans (HC.out _ (by omega))
        have f2 : wr.cell? ⟨g, o + (4 * k + 2), none⟩ = some (.int .u8 (nb (bs.getD (4 * k + 2) 0))) := (HR.out.bel.cell hg).trans (HC.out _ (by omega))
        have f3 : wr.cell? ⟨g, o + (4 * k + 3), none⟩ = some (.int .u8 (nb (bs.getD (4 * k + 3) 0))) := (HR.out.bel.cell hg).trans (HC.out _ (by omega))
        have e0 := Lib.hid (word4_eq bs k)
        generalize bs.getD (4 * k) 0 = b0 at f0 e0
        generalize bs.getD (4 * k + 1) 0 = b1 at f1 e0
        generalize bs.getD (4 * k + 2) 0 = b2 at f2 e0
        generalize bs.getD (4 * k + 3) 0 = b3 at f3 e0
        have n0 := nb_bound b0
        have n1 := nb_bound b1
        have n2 := nb_bound b2
        have n3 := nb_bound b3
        have hfz := HR.out.sch.frozen k
        have hz := parti_next (l := schedN bs k) (by omega)
        rw [← HR.out.sch.cell, hlk] at hz
        have hLK := Lib.hid hlk
        clear hlk
        go_wp2_with fail
        go_region
        all_goals go_wp2
        all_goals go_roundw
        case rel =>
          refine ⟨k + 1, by omega, by go_num, ?_⟩
          rw [schedN_own bs hk16, e0.out, word_sum]
          exact HR.out.drew.put k hLK.out (by omega) _
        case measure => simp [intOf]; omega
      · obtain ⟨m, rfl⟩ : ∃ m, k = 16 + m := ⟨k - 16, by omega⟩
        have hg16 := parti_get (l := schedN bs (16 + m)) (i := 16 + m - 16) (by omega)
        have hg15 := parti_get (l := schedN bs (16 + m)) (i := 16 + m - 15) (by omega)
        have hg7 := parti_get (l := schedN bs (16 + m)) (i := 16 + m - 7) (by omega)
        have hg2 := parti_get (l := schedN bs (16 + m)) (i := 16 + m - 2) (by omega)
        have hz := parti_next (l := schedN bs (16 + m)) (by omega)
        rw [show 16 + m - 16 = m by omega] at hg16
        rw [← HR.out.sch.cell] at hg16 hg15 hg7 hg2 hz
        rw [hlk] at hz
        have hN := schedN_more bs (k := 16 + m) (by omega)
        rw [show 16 + m - 16 = m by omega] at hN
        have hfz := HR.out.sch.frozen (16 + m)
        have HN := Lib.hid hN
        clear hN
        generalize (schedN bs (16 + m)).getD m 0 = x16 at hg16 HN
        generalize (schedN bs (16 + m)).getD (16 + m - 15) 0 = x15 at hg15 HN
        generalize (schedN bs (16 + m)).getD (16 + m - 7) 0 = x7 at hg7 HN
        generalize (schedN bs (16 + m)).getD (16 + m - 2) 0 = x2 at hg2 HN
        have hmi : (m : Int) < 48 := by omega
        have hm0 : (0 : Int) ≤ (m : Int) := by omega
        have n16 := nw_bound x16
        have n15 := nw_bound x15
        have n7 := nw_bound x7
        have n2 := nw_bound x2
        have hq15 : wr.cell? ⟨w.heap.size + 1 + 1 + 1, 16 + m - 15, none⟩ = some (.int .i64 (nw x15)) := hg15
        have hq2 : wr.cell? ⟨w.heap.size + 1 + 1 + 1, 16 + m - 2, none⟩ = some (.int .i64 (nw x2)) := hg2
        have t3 := div_3 x15
        have t10 := div_10 x2
        have xr1 := xor_i64 (rr x15 7) (rr x15 18)
        have xr2 := xor_i64 (rr x15 7 ^^^ rr x15 18) (x15 >>> 3)
        have yr1 := xor_i64 (rr x2 17) (rr x2 19)
        have yr2 := xor_i64 (rr x2 17 ^^^ rr x2 19) (x2 >>> 10)
        go_wp2_with fail
        go_quiet (first
          | (go_at_call 52; with_reducible refine (turned_7 _ _).mono ?_; rintro e w' ⟨rfl, k, rfl⟩; exact ⟨rfl, _, World.drewN_drewN ..⟩)
          | (go_at_call 52; with_reducible refine (turned_18 _ _).mono ?_; rintro e w' ⟨rfl, k, rfl⟩; exact ⟨rfl, _, World.drewN_drewN ..⟩))
        have HR2 := Lib.hid (HR.out.drewN nq)
        have hq2z : (wr.drewN nq).cell? ⟨w.heap.size + 1 + 1 + 1, 16 + m - 2, none⟩ = some (.int .i64 (nw x2)) := hq2
        have hg16z : (wr.drewN nq).cell? ⟨w.heap.size + 3, m, none⟩ = some (.int .i64 (nw x16)) := hg16
        have hg7z : (wr.drewN nq).cell? ⟨w.heap.size + 3, 16 + m - 7, none⟩ = some (.int .i64 (nw x7)) := hg7
        have hzz : (wr.drewN nq).cell? ⟨w.heap.size + 3, 16 + m, none⟩ = some (.int .i64 0) := hz
        have hfzz : (wr.drewN nq).frozen? ⟨w.heap.size + 3, 16 + m, none⟩ = false := hfz
        clear hq2 hg16 hg7 hz hfz hq15 hg15 hg2 HR t3 xr1 xr2
        generalize wr.drewN nq = wz at *
        go_wp2_with fail
        go_quiet (first
          | (go_at_call 52; with_reducible refine (turned_17 _ _).mono ?_; rintro e w' ⟨rfl, k, rfl⟩; exact ⟨rfl, _, World.drewN_drewN ..⟩)
          | (go_at_call 52; with_reducible refine (turned_19 _ _).mono ?_; rintro e w' ⟨rfl, k, rfl⟩; exact ⟨rfl, _, World.drewN_drewN ..⟩))
        clear hq2z t10 yr1 yr2
        have S1 := nw_bound (rr x15 7 ^^^ rr x15 18 ^^^ (x15 >>> 3))
        have S2 := nw_bound (rr x2 17 ^^^ rr x2 19 ^^^ (x2 >>> 10))
        go_wp2_with fail
        go_region
        all_goals go_wp2
        all_goals go_roundw
        case rel =>
          refine ⟨16 + m + 1, by omega, by go_num, ?_⟩
          rw [HN.out, sum4_mod]
          exact (HR2.out.drewN _).put (16 + m) hlk hk64 _
        case measure => simp [intOf]; omega
    · obtain rfl : k = 64 := by omega
      have h10 := HR.out.wds.cell 0
      have h11 := HR.out.wds.cell 1
      have h12 := HR.out.wds.cell 2
      have h13 := HR.out.wds.cell 3
      have h14 := HR.out.wds.cell 4
      have h15 := HR.out.wds.cell 5
      have h16 := HR.out.wds.cell 6
      have h17 := HR.out.wds.cell 7
      simp only [Wi, S8.list, List.map_cons, List.map_nil, List.getElem?_cons_zero, List.getElem?_cons_succ] at h10 h11 h12 h13 h14 h15 h16 h17
      go_wp2_with fail
      have HD := Lib.hid HR.out.drew
      refine wp_region_held_drew (S := fun w' => w'.cell? ⟨w.heap.size + 1, 0, none⟩ = some (.int .i64 (nw s.a)) ∧ w'.cell? ⟨w.heap.size + 1, 1, none⟩ = some (.int .i64 (nw s.b)) ∧ w'.cell? ⟨w.heap.size + 1, 2, none⟩ = some (.int .i64 (nw s.c)) ∧ w'.cell? ⟨w.heap.size + 1, 3, none⟩ = some (.int .i64 (nw s.d)) ∧
        w'.cell? ⟨w.heap.size + 1, 4, none⟩ = some (.int .i64 (nw s.e)) ∧ w'.cell? ⟨w.heap.size + 1, 5, none⟩ = some (.int .i64 (nw s.f)) ∧ w'.cell? ⟨w.heap.size + 1, 6, none⟩ = some (.int .i64 (nw s.g)) ∧ w'.cell? ⟨w.heap.size + 1, 7, none⟩ = some (.int .i64 (nw s.h))) (by kernel_rfl) ?_ (fun hHeld => ?_)
      · exact rt_cells HD.out
      clear h10 h11 h12 h13 h14 h15 h16 h17
      refine wpAnyH_take (i := 0) (v := ?_) (by simp only [List.getElem?_toArray, List.getElem?_cons_succ, List.getElem?_cons_zero]; rfl) (by kernel_rfl) (by kernel_rfl) (by kernel_rfl) (by exact fun _ _ _ h => h) (Or.inl ⟨by rfl, fun _ hSw => ?_⟩) (by assumption) ?_
      rotate_left
      · dsimp only at hSw
        go_simp
        first | done | with_reducible rfl
      try simp only [Act.put, List.setIfInBounds_toArray, List.set_cons_zero, List.set_cons_succ]
      refine wpAnyH_take (i := 1) (v := ?_) (by simp only [List.getElem?_toArray, List.getElem?_cons_succ, List.getElem?_cons_zero]; rfl) (by kernel_rfl) (by kernel_rfl) (by kernel_rfl) (by exact fun _ _ _ h => h) (Or.inl ⟨by rfl, fun _ hSw => ?_⟩) (by assumption) ?_
      rotate_left
      · dsimp only at hSw
        go_simp
        first | done | with_reducible rfl
      try simp only [Act.put, List.setIfInBounds_toArray, List.set_cons_zero, List.set_cons_succ]
      refine wpAnyH_take (i := 2) (v := ?_) (by simp only [List.getElem?_toArray, List.getElem?_cons_succ, List.getElem?_cons_zero]; rfl) (by kernel_rfl) (by kernel_rfl) (by kernel_rfl) (by exact fun _ _ _ h => h) (Or.inl ⟨by rfl, fun _ hSw => ?_⟩) (by assumption) ?_
      rotate_left
      · dsimp only at hSw
        go_simp
        first | done | with_reducible rfl
      try simp only [Act.put, List.setIfInBounds_toArray, List.set_cons_zero, List.set_cons_succ]
      refine wpAnyH_take (i := 3) (v := ?_) (by simp only [List.getElem?_toArray, List.getElem?_cons_succ, List.getElem?_cons_zero]; rfl) (by kernel_rfl) (by kernel_rfl) (by kernel_rfl) (by exact fun _ _ _ h => h) (Or.inl ⟨by rfl, fun _ hSw => ?_⟩) (by assumption) ?_
      rotate_left
      · dsimp only at hSw
        go_simp
        first | done | with_reducible rfl
      try simp only [Act.put, List.setIfInBounds_toArray, List.set_cons_zero, List.set_cons_succ]
      refine wpAnyH_take (i := 4) (v := ?_) (by simp only [List.getElem?_toArray, List.getElem?_cons_succ, List.getElem?_cons_zero]; rfl) (by kernel_rfl) (by kernel_rfl) (by kernel_rfl) (by exact fun _ _ _ h => h) (Or.inl ⟨by rfl, fun _ hSw => ?_⟩) (by assumption) ?_
      rotate_left
      · dsimp only at hSw
        go_simp
        first | done | with_reducible rfl
      try simp only [Act.put, List.setIfInBounds_toArray, List.set_cons_zero, List.set_cons_succ]
      refine wpAnyH_take (i := 5) (v := ?_) (by simp only [List.getElem?_toArray, List.getElem?_cons_succ, List.getElem?_cons_zero]; rfl) (by kernel_rfl) (by kernel_rfl) (by kernel_rfl) (by exact fun _ _ _ h => h) (Or.inl ⟨by rfl, fun _ hSw => ?_⟩) (by assumption) ?_
      rotate_left
      · dsimp only at hSw
        go_simp
        first | done | with_reducible rfl
      try simp only [Act.put, List.setIfInBounds_toArray, List.set_cons_zero, List.set_cons_succ]
      refine wpAnyH_take (i := 6) (v := ?_) (by simp only [List.getElem?_toArray, List.getElem?_cons_succ, List.getElem?_cons_zero]; rfl) (by kernel_rfl) (by kernel_rfl) (by kernel_rfl) (by exact fun _ _ _ h => h) (Or.inl ⟨by rfl, fun _ hSw => ?_⟩) (by assumption) ?_
      rotate_left
      · dsimp only at hSw
        go_simp
        first | done | with_reducible rfl
      try simp only [Act.put, List.setIfInBounds_toArray, List.set_cons_zero, List.set_cons_succ]
      refine wpAnyH_take (i := 7) (v := ?_) (by simp only [List.getElem?_toArray, List.getElem?_cons_succ, List.getElem?_cons_zero]; rfl) (by kernel_rfl) (by kernel_rfl) (by kernel_rfl) (by exact fun _ _ _ h => h) (Or.inl ⟨by rfl, fun _ hSw => ?_⟩) (by assumption) ?_
      rotate_left
      · dsimp only at hSw
        go_simp
        first | done | with_reducible rfl
      try simp only [Act.put, List.setIfInBounds_toArray, List.set_cons_zero, List.set_cons_succ]
      refine wpAnyH_take (i := 8) (v := ?_) (by simp only [List.getElem?_toArray, List.getElem?_cons_succ, List.getElem?_cons_zero]; rfl) (by kernel_rfl) (by kernel_rfl) (by kernel_rfl) (by exact fun _ _ _ h => h) (Or.inl ⟨by rfl, fun _ hSw => ?_⟩) (by assumption) ?_
      rotate_left
      · dsimp only at hSw
        go_simp
        first | done | with_reducible rfl
      try simp only [Act.put, List.setIfInBounds_toArray, List.set_cons_zero, List.set_cons_succ]
      refine wpAnyH_take (i := 9) (v := ?_) (by simp only [List.getElem?_toArray, List.getElem?_cons_succ, List.getElem?_cons_zero]; rfl) (by kernel_rfl) (by kernel_rfl) (by kernel_rfl) (by exact fun _ _ _ h => h) (Or.inl ⟨by rfl, fun _ hSw => ?_⟩) (by assumption) ?_
      rotate_left
      · dsimp only at hSw
        go_simp
        first | done | with_reducible rfl
      try simp only [Act.put, List.setIfInBounds_toArray, List.set_cons_zero, List.set_cons_succ]
      refine wpAnyH_take (i := 10) (v := ?_) (by simp only [List.getElem?_toArray, List.getElem?_cons_succ, List.getElem?_cons_zero]; rfl) (by kernel_rfl) (by kernel_rfl) (by kernel_rfl) (by exact fun _ _ _ h => h) (Or.inl ⟨by rfl, fun _ hSw => ?_⟩) (by assumption) ?_
      rotate_left
      · dsimp only at hSw
        go_simp
        first | done | with_reducible rfl
      try simp only [Act.put, List.setIfInBounds_toArray, List.set_cons_zero, List.set_cons_succ]
      refine wpAnyH_take (i := 11) (v := ?_) (by simp only [List.getElem?_toArray, List.getElem?_cons_succ, List.getElem?_cons_zero]; rfl) (by kernel_rfl) (by kernel_rfl) (by kernel_rfl) (by exact fun _ _ _ h => h) (Or.inl ⟨by rfl, fun _ hSw => ?_⟩) (by assumption) ?_
      rotate_left
      · dsimp only at hSw
        go_simp
        first | done | with_reducible rfl
      try simp only [Act.put, List.setIfInBounds_toArray, List.set_cons_zero, List.set_cons_succ]
      refine wpAnyH_take (i := 12) (v := ?_) (by simp only [List.getElem?_toArray, List.getElem?_cons_succ, List.getElem?_cons_zero]; rfl) (by kernel_rfl) (by kernel_rfl) (by kernel_rfl) (by exact fun _ _ _ h => h) (Or.inl ⟨by rfl, fun _ hSw => ?_⟩) (by assumption) ?_
      rotate_left
      · dsimp only at hSw
        go_simp
        first | done | with_reducible rfl
      try simp only [Act.put, List.setIfInBounds_toArray, List.set_cons_zero, List.set_cons_succ]
      refine wpAnyH_take (i := 13) (v := ?_) (by simp only [List.getElem?_toArray, List.getElem?_cons_succ, List.getElem?_cons_zero]; rfl) (by kernel_rfl) (by kernel_rfl) (by kernel_rfl) (by exact fun _ _ _ h => h) (Or.inl ⟨by rfl, fun _ hSw => ?_⟩) (by assumption) ?_
      rotate_left
      · dsimp only at hSw
        go_simp
        first | done | with_reducible rfl
      try simp only [Act.put, List.setIfInBounds_toArray, List.set_cons_zero, List.set_cons_succ]
      refine wpAnyH_take (i := 14) (v := ?_) (by simp only [List.getElem?_toArray, List.getElem?_cons_succ, List.getElem?_cons_zero]; rfl) (by kernel_rfl) (by kernel_rfl) (by kernel_rfl) (by exact fun _ _ _ h => h) (Or.inl ⟨by rfl, fun _ hSw => ?_⟩) (by assumption) ?_
      rotate_left
      · dsimp only at hSw
        go_simp
        first | done | with_reducible rfl
      try simp only [Act.put, List.setIfInBounds_toArray, List.set_cons_zero, List.set_cons_succ]
      refine wpAnyH_take (i := 15) (v := ?_) (by simp only [List.getElem?_toArray, List.getElem?_cons_succ, List.getElem?_cons_zero]; rfl) (by kernel_rfl) (by kernel_rfl) (by kernel_rfl) (by exact fun _ _ _ h => h) (Or.inl ⟨by rfl, fun _ hSw => ?_⟩) (by assumption) ?_
      rotate_left
      · dsimp only at hSw
        go_simp
        first | done | with_reducible rfl
      try simp only [Act.put, List.setIfInBounds_toArray, List.set_cons_zero, List.set_cons_succ]
      refine wpAnyH_take (i := 16) (v := ?_) (by simp only [List.getElem?_toArray, List.getElem?_cons_succ, List.getElem?_cons_zero]; rfl) (by kernel_rfl) (by kernel_rfl) (by kernel_rfl) (by exact fun _ _ _ h => h) (Or.inl ⟨by rfl, fun _ hSw => ?_⟩) (by assumption) ?_
      rotate_left
      · dsimp only at hSw
        go_simp
        first | done | with_reducible rfl
      try simp only [Act.put, List.setIfInBounds_toArray, List.set_cons_zero, List.set_cons_succ]
      refine wpAnyH_take (i := 17) (v := ?_) (by simp only [List.getElem?_toArray, List.getElem?_cons_succ, List.getElem?_cons_zero]; rfl) (by kernel_rfl) (by kernel_rfl) (by kernel_rfl) (by exact fun _ _ _ h => h) (Or.inl ⟨by rfl, fun _ hSw => ?_⟩) (by assumption) ?_
      rotate_left
      · dsimp only at hSw
        go_simp
        first | done | with_reducible rfl
      try simp only [Act.put, List.setIfInBounds_toArray, List.set_cons_zero, List.set_cons_succ]
      refine wpAnyH_take (i := 18) (v := ?_) (by simp only [List.getElem?_toArray, List.getElem?_cons_succ, List.getElem?_cons_zero]; rfl) (by kernel_rfl) (by kernel_rfl) (by kernel_rfl) (by exact fun _ _ _ h => h) (Or.inl ⟨by rfl, fun _ hSw => ?_⟩) (by assumption) ?_
      rotate_left
      · dsimp only at hSw
        go_simp
        first | done | with_reducible rfl
      try simp only [Act.put, List.setIfInBounds_toArray, List.set_cons_zero, List.set_cons_succ]
      refine wpAnyH_take (i := 19) (v := ?_) (by simp only [List.getElem?_toArray, List.getElem?_cons_succ, List.getElem?_cons_zero]; rfl) (by kernel_rfl) (by kernel_rfl) (by kernel_rfl) (by exact fun _ _ _ h => h) (Or.inl ⟨by rfl, fun _ hSw => ?_⟩) (by assumption) ?_
      rotate_left
      · dsimp only at hSw
        go_simp
        first | done | with_reducible rfl
      try simp only [Act.put, List.setIfInBounds_toArray, List.set_cons_zero, List.set_cons_succ]
      refine four_boxes_start _ _ (fun w' => RT w.heap.size w w' H0 ks s (schedN bs 64)) (w.heap.size + 4) (pairs s) (fun j => 117 + 5 * j) (by kernel_rfl) (of_decide_eq_true (by kernel_rfl)) HD.out (fun _ h => rt_cells h) (fun _ h => by have := h.sch.lt; omega) (fun _ h => h.alloc _) (fun _ _ p h hp hO => h.only hp hO)
        (fun j hj => match j, hj with
          | 0, _ => ⟨_, rfl, rfl, rfl, rfl⟩
          | 1, _ => ⟨_, rfl, rfl, rfl, rfl⟩
          | 2, _ => ⟨_, rfl, rfl, rfl, rfl⟩
          | 3, _ => ⟨_, rfl, rfl, rfl, rfl⟩)
        (fun j hj => match j, hj with
          | 0, _ => ⟨_, rfl, rfl, rfl, rfl⟩
          | 1, _ => ⟨_, rfl, rfl, rfl, rfl⟩
          | 2, _ => ⟨_, rfl, rfl, rfl, rfl⟩
          | 3, _ => ⟨_, rfl, rfl, rfl, rfl⟩)
        (fun j hj => match j, hj with
          | 0, _ => ⟨by decide, rfl, rfl, Wi_oneCell _⟩
          | 1, _ => ⟨by decide, rfl, rfl, Wi_oneCell _⟩
          | 2, _ => ⟨by decide, rfl, rfl, Wi_oneCell _⟩
          | 3, _ => ⟨by decide, rfl, rfl, Wi_oneCell _⟩)
        (by decide +kernel) ?_
      clear HD hHeld HR
      intro w2 p hR2 hp hpd
      simp only [Act.put, List.setIfInBounds_toArray, List.set_cons_zero, List.set_cons_succ]
      have HB := Lib.hid (RB.mk hR2 (hp 0 (by omega)).2 (hp 1 (by omega)).2 (hp 2 (by omega)).2 (hp 3 (by omega)).2 (t := s))
      have HF := Lib.hid (Four.mk (hp 0 (by omega)).1 (hp 1 (by omega)).1 (hp 2 (by omega)).1 (hp 3 (by omega)).1 (hpd 0 1 (by omega) (by omega) (by omega)) (hpd 0 2 (by omega) (by omega) (by omega)) (hpd 0 3 (by omega) (by omega) (by omega)) (hpd 1 2 (by omega) (by omega) (by omega)) (hpd 1 3 (by omega) (by omega) (by omega)) (hpd 2 3 (by omega) (by omega) (by omega)))
      clear hR2 hp hpd
      generalize p 0 = p0 at *
      generalize p 1 = p1 at *
      generalize p 2 = p2 at *
      generalize p 3 = p3 at *
      go_wp2_with fail
      go_loopw [15] (fun iv wr => ∃ k : Nat, k ≤ 64 ∧ iv = .int .i64 k ∧ RB w.heap.size w wr H0 ks s (schedN bs 64) p0 p1 p2 p3 (steps8 ks (sched bs) s k)) (fun iv _ => 64 - (intOf iv).toNat)
      case atStart => exact ⟨0, by omega, rfl, HB.out⟩
      case round =>
        clear HB hk hk64
        obtain ⟨k, hk, rfl, hr⟩ := hrel
        have HB := Lib.hid hr
        clear hr
        by_cases hk64 : k < 64
        · have hS : steps8 ks (sched bs) s (k + 1) = step8 (steps8 ks (sched bs) s k) (ks.getD k 0) ((sched bs).getD k 0) := rfl
          have HS := Lib.hid hS
          clear hS
          have f0 : wr.cell? ⟨w.heap.size, 8 + k, none⟩ = some (.int .i64 (nw (ks.getD k 0))) := by
            rw [HB.out.rt.tab.cell, List.getElem?_append_right (by rw [Wi_length]; omega), Wi_length, hH, Nat.add_sub_cancel_left, Wi_getD (by omega)]
          have f1 : wr.cell? ⟨w.heap.size + 1 + 1 + 1, k, none⟩ = some (.int .i64 (nw ((sched bs).getD k 0))) := by
            rw [← schedN_all]
            exact (HB.out.rt.sch.cell k).trans (parti_get (by rw [schedN_length]; omega))
          generalize ks.getD k 0 = kc at f0 HS
          generalize (sched bs).getD k 0 = wc at f1 HS
          obtain ⟨t, ht⟩ : ∃ t, t = steps8 ks (sched bs) s k := ⟨_, rfl⟩
          rw [← ht] at HB HS
          clear ht
          obtain ⟨a, b, c, d, e, f, g2, h2⟩ := t
          obtain ⟨a0, a1⟩ := pair_cell HB.out.A
          obtain ⟨c0, c1⟩ := pair_cell HB.out.C
          obtain ⟨e0, e1⟩ := pair_cell HB.out.E
          obtain ⟨g0, g1⟩ := pair_cell HB.out.G
          have hki : (k : Int) < 64 := by omega
          have hk0 : (0 : Int) ≤ (k : Int) := by omega
          have ne := nw_bound e
          have nef := nw_bound (e &&& f)
          have neg := nw_bound (~~~e &&& g2)
          have na1 := and_i64 e f
          have nn1 := not_i64 e
          have na2 := and_i64 (~~~e) g2
          have na3 := pick_sum e f g2
          have nb1 := and_i64 a b
          have nb2 := and_i64 a c
          have nb3 := and_i64 b c
          have nb4 := or_i64 (a &&& b) (a &&& c)
          have nb5 := or_i64 ((a &&& b) ||| (a &&& c)) (b &&& c)
          have nb6 := most_or a b c
          go_wp2_with fail
          clear na1 nn1 na2 na3 nb1 nb2 nb3 nb4 nb5 nb6 nef neg
          have xe1 := xor_i64 (rr e 6) (rr e 11)
          have xe2 := xor_i64 (rr e 6 ^^^ rr e 11) (rr e 25)
          have nh := nw_bound h2
          have nu := nw_bound (rr e 6 ^^^ rr e 11 ^^^ rr e 25)
          have nv := nw_bound ((e &&& f) ^^^ (~~~e &&& g2))
          have nk := nw_bound kc
          have nwc := nw_bound wc
          go_quiet (first
            | (go_at_call 52; with_reducible refine (turned_6 _ _).mono ?_; rintro e w' ⟨rfl, k, rfl⟩; exact ⟨rfl, _, World.drewN_drewN ..⟩)
            | (go_at_call 52; with_reducible refine (turned_11 _ _).mono ?_; rintro e w' ⟨rfl, k, rfl⟩; exact ⟨rfl, _, World.drewN_drewN ..⟩)
            | (go_at_call 52; with_reducible refine (turned_25 _ _).mono ?_; rintro e w' ⟨rfl, k, rfl⟩; exact ⟨rfl, _, World.drewN_drewN ..⟩))
          have HB2 := Lib.hid (HB.out.drewN nq)
          clear HB a0 a1 c0 c1 e0 e1 g0 g1 f0 f1 xe1 xe2
          generalize wr.drewN nq = wz at *
          obtain ⟨a0, a1⟩ := pair_cell HB2.out.A
          have xa1 := xor_i64 (rr a 2) (rr a 13)
          have xa2 := xor_i64 (rr a 2 ^^^ rr a 13) (rr a 22)
          have nm := nw_bound ((a &&& b) ^^^ (a &&& c) ^^^ (b &&& c))
          have nt := nw_bound (rr a 2 ^^^ rr a 13 ^^^ rr a 22)
          go_wp2_with fail
          go_quiet (first
            | (go_at_call 52; with_reducible refine (turned_2 _ _).mono ?_; rintro e w' ⟨rfl, k, rfl⟩; exact ⟨rfl, _, World.drewN_drewN ..⟩)
            | (go_at_call 52; with_reducible refine (turned_13 _ _).mono ?_; rintro e w' ⟨rfl, k, rfl⟩; exact ⟨rfl, _, World.drewN_drewN ..⟩)
            | (go_at_call 52; with_reducible refine (turned_22 _ _).mono ?_; rintro e w' ⟨rfl, k, rfl⟩; exact ⟨rfl, _, World.drewN_drewN ..⟩))
          have HB3 := Lib.hid (HB2.out.drewN nq)
          clear HB2 a0 a1 xa1 xa2
          generalize wz.drewN nq = wy at *
          obtain ⟨a0, a1⟩ := pair_cell HB3.out.A
          obtain ⟨c0, c1⟩ := pair_cell HB3.out.C
          obtain ⟨e0, e1⟩ := pair_cell HB3.out.E
          obtain ⟨g0, g1⟩ := pair_cell HB3.out.G
          have nd := nw_bound d
          have i72 : (Tryz.prog.info? 105).map (·.size) = some 2 := by kernel_rfl
          have I72 := Lib.hid i72
          clear i72
          go_upto_region 19 with (refine wpList_store_blk rfl 105 (.tmp 14) (.tmp 208) rfl p3 0 (Wi [f, g2]) rfl rfl HB3.out.G (by simp [Wi_length]) (I72.out.trans (by simp [Wi_length])) (Wi_oneCell _) ?_; intro w5 hA hO; rw [over_whole (by simp [Wi_length])] at hA; have HB5 := Lib.hid (HB3.out.putG HF.out hA hO); clear hA hO)
          obtain ⟨a0', a1'⟩ := pair_cell HB5.out.A
          obtain ⟨c0', c1'⟩ := pair_cell HB5.out.C
          obtain ⟨e0', e1'⟩ := pair_cell HB5.out.E
          clear HB3 a0 a1 c0 c1 e0 e1 g0 g1
          have q1 := sum6_mod d h2 (rr e 6 ^^^ rr e 11 ^^^ rr e 25) ((e &&& f) ^^^ (~~~e &&& g2)) kc wc
          go_upto_region 20 with (refine wpList_store_blk rfl 105 (.tmp 13) (.tmp 216) rfl p2 0 (Wi [_, e]) rfl rfl HB5.out.E (by simp [Wi_length]) (I72.out.trans (by simp [Wi_length])) (Wi_oneCell _) ?_; intro w6 hA hO; rw [over_whole (by simp [Wi_length])] at hA; have HB6 := Lib.hid (HB5.out.putE HF.out hA hO); clear hA hO)
          obtain ⟨a0, a1⟩ := pair_cell HB6.out.A
          obtain ⟨c0, c1⟩ := pair_cell HB6.out.C
          clear HB5 a0' a1' c0' c1' e0' e1' q1
          have q2 := sum7_mod h2 (rr e 6 ^^^ rr e 11 ^^^ rr e 25) ((e &&& f) ^^^ (~~~e &&& g2)) kc wc (rr a 2 ^^^ rr a 13 ^^^ rr a 22) ((a &&& b) ^^^ (a &&& c) ^^^ (b &&& c))
          go_upto_region 21 with (refine wpList_store_blk rfl 105 (.tmp 12) (.tmp 221) rfl p1 0 (Wi [b, c]) rfl rfl HB6.out.C (by simp [Wi_length]) (I72.out.trans (by simp [Wi_length])) (Wi_oneCell _) ?_; intro w7 hA hO; rw [over_whole (by simp [Wi_length])] at hA; have HB7 := Lib.hid (HB6.out.putC HF.out hA hO); clear hA hO)
          obtain ⟨a0', a1'⟩ := pair_cell HB7.out.A
          clear HB6 a0 a1 c0 c1
          go_wp2_with (refine wpList_store_blk rfl 105 (.tmp 11) (.tmp 228) rfl p0 0 (Wi [_, a]) rfl rfl HB7.out.A (by simp [Wi_length]) (I72.out.trans (by simp [Wi_length])) (Wi_oneCell _) ?_; intro w8 hA hO; rw [over_whole (by simp [Wi_length])] at hA; have HB8 := Lib.hid (HB7.out.putA HF.out hA hO); clear hA hO)
          go_roundw
          case rel =>
            (repeat apply Exists.intro)
            refine And.intro ?_ rfl
            refine ⟨k + 1, by omega, by go_num, ?_⟩
            rw [HS.out]
            exact HB8.out
          case measure => simp [intOf]; omega
        · obtain rfl : k = 64 := by omega
          obtain ⟨t, ht⟩ : ∃ t, t = steps8 ks (sched bs) s 64 := ⟨_, rfl⟩
          rw [← ht] at HB
          have HT := Lib.hid ht
          clear ht hk hk64
          obtain ⟨a0, a1⟩ := pair_cell HB.out.A
          obtain ⟨c0, c1⟩ := pair_cell HB.out.C
          obtain ⟨e0, e1⟩ := pair_cell HB.out.E
          obtain ⟨g0, g1⟩ := pair_cell HB.out.G
          have i26 : (Tryz.prog.info? 30).map (·.size) = some 8 := by kernel_rfl
          have I26 := Lib.hid i26
          clear i26
          go_wp2_with (refine wpList_store_blk rfl 30 (.tmp 20) (.tmp 245) rfl wr.heap.size 0 (Wi t.list) rfl rfl (Blk.new wr 30 (List.replicate 8 (.int .i64 0))) (by simp [Wi_length, S8.list]) (I26.out.trans (by simp [Wi_length, S8.list])) (Wi_oneCell _) ?_; intro w9 hA hO; rw [over_whole (by simp [Wi_length, S8.list])] at hA; have HA := Lib.hid hA; have HR9 := Lib.hid ((HB.out.rt.alloc (.cells (List.replicate 8 (Value.int .i64 0)).toArray 30)).only (by have := HB.out.rt.sch.lt; omega) hO); clear hA hO)
          have hq4 : w.heap.size + 4 ≤ wr.heap.size := by have := HB.out.rt.sch.lt; omega
          generalize wr.heap.size = q at *
          clear HB a0 a1 c0 c1 e0 e1 g0 g1 HF
          go_loopw [21] (fun i wz => ∃ j : Nat, j ≤ 8 ∧ i = .int .i64 j ∧ RT w.heap.size w wz H0 ks s (schedN bs 64) ∧ Blk wz q 30 (Wi (mix8 t s j))) (fun i _ => 8 - (intOf i).toNat)
          case atStart => exact ⟨0, by omega, rfl, HR9.out, HA.out⟩
          case round =>
            clear HR9 HA
            obtain ⟨j, hj, rfl, hrj, hbj⟩ := hrel
            have HRJ := Lib.hid hrj
            have HBJ := Lib.hid hbj
            clear hrj hbj
            by_cases hj8 : j < 8
            · have hc1 := HRJ.out.wds.cell j
              rw [Wi_getD (by simp [S8.list]; omega)] at hc1
              have hc2 : wr.cell? ⟨q, j, none⟩ = some (.int .i64 (nw (t.list.getD j 0))) := mixi_cell HBJ.out hj8
              have hst := Lib.hid (fun W h => mixi_step (w := W) (p := q) (s := t) (t := s) h hj8)
              have hfz := HBJ.out.frozen j
              generalize s.list.getD j 0 = x at hc1 hst
              generalize t.list.getD j 0 = y at hc2 hst
              have nx := nw_bound x
              have ny := nw_bound y
              have hm := sum2_mod y x
              have hji : (j : Int) < 8 := by omega
              have hj0 : (0 : Int) ≤ (j : Int) := by omega
              go_wp2_with fail
              go_still_tail 10, (by kernel_rfl)
              change wpList _ _ _ _ _ wr.drew
              go_wp2
              go_roundw
              case rel =>
                refine ⟨j + 1, by omega, by go_num, ?_, ?_⟩
                · exact HRJ.out.drew.only hq4 ((Only.refl _ _).setCell (p := ⟨q, j, none⟩) (.inl (by simp)) _)
                · exact hst.out _ HBJ.out.drew
              case measure => simp [intOf]; omega
            · obtain rfl : j = 8 := by omega
              have e8 : mix8 t s 8 = (turn8 ks s bs).list := by
                rw [show mix8 t s 8 = (add8 t s).list from rfl, add8_comm, HT.out]
                rfl
              rw [e8] at HBJ
              have hl8 : (Wi (turn8 ks s bs).list).length = 8 := by simp [Wi_length, S8.list]
              clear e8 hj8 hj
              obtain ⟨L, hL⟩ : ∃ L, L = (turn8 ks s bs).list := ⟨_, rfl⟩
              rw [← hL] at HBJ hl8
              have HL := Lib.hid hL
              clear hL
              go_wp2_with (first
                | (refine wpList_load_mid rfl 30 (.tmp 20) rfl q 0 rfl _ _ HBJ.out.range Tryz.underlying30 rfl (I26.out.trans (by rw [hl8])) ?_)
                | (refine wpList_store_blk rfl 30 (.tmp 6) (.tmp 260) rfl (w.heap.size + 1 + 1) 0 (Wi L) rfl rfl HRJ.out.out (by simp [hl8]) (I26.out.trans (by simp [hl8])) (Wi_oneCell _) ?_; intro wF hF hO))
              rw [over_whole (by simp [hl8])] at hF
              refine bodyPost_ret (v := .agg (Wi L).toArray) ?_ rfl ⟨by rw [HL.out], ?_⟩
              · exact ret_cell rfl rfl (run_loadVar_mid _ _ 0 30 _ _ hF.range Tryz.underlying30 rfl (I26.out.trans (by rw [hl8])))
              · exact HRJ.out.bel.trans (hO.below (B := w.heap.size) (by have := HRJ.out.sch.lt; omega) (by simp; omega))

end Go.Proofs.YtlpljedacohngaaGreatDoor
end

/-
  The document's table, plainly: digits, products, roots, primes; and that it is the program's own constants, reckoned by the kernel. No condition.
-/

section
set_option maxRecDepth 100000
set_option linter.unusedSimpArgs false
set_option linter.unusedVariables false
namespace Go.Proofs.YtlpljedacohngaaGreatDoor
open Go.RowKit

def digs (y : Nat) : List Nat := [y % 65536, y / 65536 % 65536, y / 65536 / 65536 % 65536]
def mulIn (a b out : List Nat) (i : Nat) : Nat → List Nat × Nat
  | 0 => (out, 0)
  | k + 1 =>
    let r := mulIn a b out i k
    let n := r.1.getD (i + k) 0 + a.getD i 0 * b.getD k 0 + r.2
    (r.1.set (i + k) (n % 65536), n / 65536)
def mulOut (a b : List Nat) : Nat → List Nat
  | 0 => List.replicate (a.length + b.length) 0
  | i + 1 =>
    let r := mulIn a b (mulOut a b i) i b.length
    r.1.set (i + b.length) r.2
def prodN (a b : List Nat) : List Nat := mulOut a b a.length
def powD (y : Nat) : Nat → List Nat
  | 0 => digs y
  | k + 1 => prodN (powD y k) (digs y)
def wholeR (z : List Nat) (top : Nat) : Nat → Nat × Nat
  | 0 => (0, 0)
  | j + 1 =>
    let r := wholeR z top j
    let d := z.getD (z.length - 1 - j) 0
    if top ≤ z.length - 1 - j then (65536 * r.1 + d, r.2) else (r.1, r.2 + d)
def goodR (prime power y : Nat) : Bool :=
  let r := wholeR (powD y (power - 1)) (2 * power) (3 * power)
  decide (r.1 < prime) || (r.1 == prime && r.2 == 0)
def rootX (prime power : Nat) : Nat → Nat
  | 0 => 0
  | j + 1 =>
    let x := rootX prime power j
    let y := x + 2 ^ (36 - j)
    if goodR prime power y then y else x
def rootN (prime power : Nat) : Nat := rootX prime power 37 % 4294967296

/-- All digits are small. -/
def S16 (l : List Nat) : Prop := ∀ i, l.getD i 0 < 65536
theorem S16.set {l : List Nat} (h : S16 l) (j : Nat) {x : Nat} (hx : x < 65536) : S16 (l.set j x) := by
  intro i
  have := h i
  rw [List.getD_eq_getElem?_getD, List.getElem?_set] at *
  split
  · split
    · exact hx
    · simp
  · exact this
theorem S16.zeros (n : Nat) : S16 (List.replicate n 0) := by
  intro i
  rw [List.getD_eq_getElem?_getD, List.getElem?_replicate]
  split <;> simp
theorem S16.digs (y : Nat) : S16 (digs y) := by
  intro i
  match i with
  | 0 | 1 | 2 => simp [Go.Proofs.YtlpljedacohngaaGreatDoor.digs]; omega
  | i + 3 => simp [Go.Proofs.YtlpljedacohngaaGreatDoor.digs]
theorem mulIn_length (a b out : List Nat) (i : Nat) : ∀ k, (mulIn a b out i k).1.length = out.length
  | 0 => rfl
  | k + 1 => by simp [mulIn, mulIn_length a b out i k]
theorem mul_small {o a b c : Nat} (ho : o < 65536) (ha : a < 65536) (hb : b < 65536) (hc : c < 65536) : a * b ≤ 4294836225 ∧ o + a * b + c ≤ 4294967295 := by
  have h : a * b ≤ 65535 * 65535 := Nat.mul_le_mul (by omega) (by omega)
  omega
theorem mulIn_small {a b out : List Nat} (ha : S16 a) (hb : S16 b) (ho : S16 out) (i : Nat) : ∀ k, S16 (mulIn a b out i k).1 ∧ (mulIn a b out i k).2 < 65536
  | 0 => ⟨ho, by simp [mulIn]⟩
  | k + 1 => by
    obtain ⟨h1, h2⟩ := mulIn_small ha hb ho i k
    have := mul_small (h1 (i + k)) (ha i) (hb k) h2
    refine ⟨h1.set _ (by omega), ?_⟩
    simp only [mulIn]
    omega
theorem mulOut_length (a b : List Nat) : ∀ i, (mulOut a b i).length = a.length + b.length
  | 0 => by simp [mulOut]
  | i + 1 => by simp [mulOut, mulIn_length, mulOut_length a b i]
theorem mulOut_small {a b : List Nat} (ha : S16 a) (hb : S16 b) : ∀ i, S16 (mulOut a b i)
  | 0 => S16.zeros _
  | i + 1 => by
    have := mulIn_small ha hb (mulOut_small ha hb i) i b.length
    exact this.1.set _ this.2
theorem prodN_length (a b : List Nat) : (prodN a b).length = a.length + b.length := mulOut_length a b _
theorem prodN_small {a b : List Nat} (ha : S16 a) (hb : S16 b) : S16 (prodN a b) := mulOut_small ha hb _
theorem powD_length (y : Nat) : ∀ k, (powD y k).length = 3 + 3 * k
  | 0 => rfl
  | k + 1 => by
    rw [powD, prodN_length, powD_length y k]
    show 3 + 3 * k + 3 = _
    omega
theorem powD_small (y : Nat) : ∀ k, S16 (powD y k)
  | 0 => S16.digs y
  | k + 1 => prodN_small (powD_small y k) (S16.digs y)
theorem wholeR_small {z : List Nat} (hz : S16 z) (top : Nat) : ∀ j, j ≤ z.length → (wholeR z top j).1 < 65536 ^ (min j (z.length - top)) ∧ (wholeR z top j).2 ≤ 65536 * j
  | 0, _ => by simp [wholeR]
  | j + 1, hj => by
    obtain ⟨h1, h2⟩ := wholeR_small hz top j (by omega)
    have hd := hz (z.length - 1 - j)
    simp only [wholeR]
    split
    · refine ⟨?_, by show _ ≤ _; omega⟩
      have e : min (j + 1) (z.length - top) = j + 1 := by omega
      have e2 : min j (z.length - top) = j := by omega
      rw [e2] at h1
      rw [e, Nat.pow_succ]
      show 65536 * (wholeR z top j).1 + _ < _
      omega
    · refine ⟨?_, by show _ + _ ≤ _; omega⟩
      exact Nat.lt_of_lt_of_le h1 (Nat.pow_le_pow_right (by omega) (by omega))
theorem rootX_small (prime power : Nat) : ∀ j, j ≤ 37 → rootX prime power j + 2 ^ (37 - j) ≤ 137438953472
  | 0, _ => by simp [rootX]
  | j + 1, h => by
    have := rootX_small prime power j (by omega)
    have e : 2 ^ (37 - j) = 2 ^ (36 - j) + 2 ^ (36 - j) := by
      rw [show 37 - j = (36 - j) + 1 by omega, Nat.pow_succ]
      omega
    have hp := Nat.two_pow_pos (36 - j)
    simp only [rootX]
    rw [show 37 - (j + 1) = 36 - j by omega]
    split <;> omega

def divsN (p : Nat) : Nat → Nat
  | 0 => 0
  | j + 1 => divsN p j + if p % (j + 1) = 0 then 1 else 0
theorem divsN_le (p : Nat) : ∀ j, divsN p j ≤ j
  | 0 => by simp [divsN]
  | j + 1 => by
    have := divsN_le p j
    simp only [divsN]
    split <;> omega
def isP (p : Nat) : Bool := divsN p p == 2
/-- The primes of k numbers from 2 on. -/
def primesN : Nat → List Nat
  | 0 => []
  | k + 1 => if isP (k + 2) then primesN k ++ [k + 2] else primesN k
def padN (n : Nat) (l : List Nat) : List Nat := l ++ List.replicate (n - l.length) 0
def tabN (ps : List Nat) : List Nat := padN 8 ((ps.take 8).map fun p => rootN p 2) ++ padN 64 (ps.map fun p => rootN p 3)
def Vn (l : List Nat) : List Value := l.map fun (n : Nat) => .int .i64 n
theorem Vn_length (l : List Nat) : (Vn l).length = l.length := by simp [Vn]

set_option maxRecDepth 1000000 in
theorem primes_now : primesN 310 = [2, 3, 5, 7, 11, 13, 17, 19, 23, 29, 31, 37, 41, 43, 47, 53, 59, 61, 67, 71, 73, 79, 83, 89, 97, 101, 103, 107, 109, 113, 127, 131, 137, 139, 149, 151, 157, 163, 167, 173, 179, 181, 191, 193, 197, 199, 211, 223, 227, 229, 233, 239, 241, 251, 257, 263, 269, 271, 277, 281, 283, 293, 307, 311] := by decide +kernel
set_option maxRecDepth 1000000 in
theorem primes_less : (primesN 309).length = 63 := by decide +kernel
theorem primes_mono : ∀ k d, (primesN k).length ≤ (primesN (k + d)).length
  | _, 0 => Nat.le_refl _
  | k, d + 1 => by
    have := primes_mono k d
    rw [← Nat.add_assoc]
    simp only [primesN]
    split
    · rw [List.length_append]; omega
    · exact this
theorem primes_63 {k : Nat} (h : k ≤ 309) : (primesN k).length < 64 := by
  have := primes_mono k (309 - k)
  rw [show k + (309 - k) = 309 by omega, primes_less] at this
  omega

end Go.Proofs.YtlpljedacohngaaGreatDoor
end
