/-
  The small functions of nodes: Blocks, what a layout tells, what is wrong with a change. Conditions: the log is at rest, and has room for the nodes and a block.
-/
import Derived.Test.YtkmkblhmjeeaeaaGreatDoorM11
import Derived.Test.YtkmkblhmjeeaeaaGreatDoorM3
import Derived.Deep.QuietTactic
import Derived.BigQuiet
import Derived.IntWalk
import Derived.Test.YtkmkblhmjeeaeaaGreatDoorM9
import Derived.Test.YtkmkblhmjeeaeaaGreatDoorM4
import Derived.Deep.RegionHeld3
import Derived.Lib.SlBytesConst
section
set_option linter.unusedSimpArgs false
set_option linter.unusedVariables false
set_option maxRecDepth 100000
namespace Go.Proofs.YtkmkblhmjeeaeaaGreatDoor
open Go.RowKit

theorem iblocks_any (w : World) (n : Nat) (hn : n ≤ 1073741824) : Calls Tryz.prog 38 #[.int .i64 n] w fun e w' => e = .returned (.int .i64 (blks n : Nat)) ∧ w = w' := by
  by_cases h0 : n < 1
  · obtain rfl : n = 0 := by omega
    go_enter Tryz.func38, Tryz.ntmps38
    go_wp2_with fail
    go_ret
    exact ⟨rfl, rfl⟩
  · have h1 : decide ((n : Int) < 1) = false := by simp; omega
    have hb : 1 ≤ (n : Int) := by omega
    go_enter Tryz.func38, Tryz.ntmps38
    go_wp2_with fail
    go_ret
    exact ⟨ret_num (by unfold blks; omega), rfl⟩

abbrev lay (G N : Nat) : Value := .agg #[.pointer (some ⟨G, 0, none⟩), .int .i64 (N : Int)]
section
variable {ks : List B32} {B D L G n j N K : Nat} {S : Nat → List B8} {c : Nat} {w : World}
theorem nodeAt_any (i : Nat) (hi : i ≤ 1000000) : Calls Tryz.prog 58 #[lay G N, .int .i64 i] w fun e w' => e = .returned (.int .i64 ((1 + i : Nat) : Int)) ∧ Below w.heap.size w w' := by
  have hb := new_below w (.cells #[.pointer (some ⟨G, 0, none⟩), .int .i64 (N : Int)] 77)
  have HB := Lib.hid hb
  clear hb
  go_enter Tryz.func58, Tryz.ntmps58
  go_wp2_with fail
  go_ret
  exact ⟨ret_num (by omega), HB.out⟩
theorem blockAt_any (i : Nat) (hi : i ≤ 1000000) (hN : N ≤ 1000000) : Calls Tryz.prog 61 #[lay G N, .int .i64 i] w fun e w' => e = .returned (.int .i64 ((1 + N + i : Nat) : Int)) ∧ Below w.heap.size w w' := by
  have hb := new_below w (.cells #[.pointer (some ⟨G, 0, none⟩), .int .i64 (N : Int)] 77)
  have HB := Lib.hid hb
  clear hb
  go_enter Tryz.func61, Tryz.ntmps61
  go_wp2_with fail
  go_ret
  exact ⟨ret_num (by omega), HB.out⟩
theorem ihas_yes (x : Int) (h0 : 0 ≤ x) (h1 : x < N) : Calls Tryz.prog 50 #[lay G N, .int .i64 x] w fun e w' => e = .returned (.bool true) ∧ Below w.heap.size w w' := by
  have hb := new_below w (.cells #[.pointer (some ⟨G, 0, none⟩), .int .i64 (N : Int)] 77)
  have HB := Lib.hid hb
  clear hb
  go_enter Tryz.func50, Tryz.ntmps50
  go_wp2_with fail
  go_ret
  exact ⟨rfl, HB.out⟩
theorem ihas_no (x : Int) (h : x < 0 ∨ N ≤ x) : Calls Tryz.prog 50 #[lay G N, .int .i64 x] w fun e w' => e = .returned (.bool false) ∧ Below w.heap.size w w' := by
  have hb := new_below w (.cells #[.pointer (some ⟨G, 0, none⟩), .int .i64 (N : Int)] 77)
  have HB := Lib.hid hb
  clear hb
  by_cases h0 : 0 ≤ x
  · have h1 : decide (x < (N : Int)) = false := by simp; omega
    clear h
    go_enter Tryz.func50, Tryz.ntmps50
    go_wp2_with fail
    go_ret
    exact ⟨rfl, HB.out⟩
  · have h1 : decide (0 ≤ x) = false := by simp; omega
    clear h
    go_enter Tryz.func50, Tryz.ntmps50
    go_wp2_with fail
    go_ret
    exact ⟨rfl, HB.out⟩
theorem lblocks_any (hL : Lg ks B D L G n j S c w) (hg : Geo n j N K) : Calls Tryz.prog 44 #[lay G N] w fun e w' => e = .returned (.int .i64 (K : Int)) ∧ Below w.heap.size w w' := by
  have hb := new_below w (.cells #[.pointer (some ⟨G, 0, none⟩), .int .i64 (N : Int)] 77)
  have HS := Lib.hid (lg_sectors ((hL.below hb).below (drew_below _)) hg)
  have HB := Lib.hid hb
  obtain ⟨t0, t1⟩ := blk_pair (Blk.new w 77 [.pointer (some ⟨G, 0, none⟩), .int .i64 (N : Int)])
  have hN0 := hg.N0
  have hN1 := hg.N1
  have hK0 := hg.K0
  have hn1 := hg.n1
  have hK1 : K ≤ 4096 := by have := hg.nn; omega
  obtain ⟨z, hz⟩ : ∃ z : Int, ((1 + N + K : Nat) : Int) = z := ⟨_, rfl⟩
  rw [hz] at HS
  have hz0 : 0 ≤ z := by omega
  have hz1 : z ≤ 5000 := by omega
  have hz2 : (N : Int) + 1 ≤ z := by omega
  have HQ := Lib.hid hz
  clear hb hL hg hz
  go_enter Tryz.func44, Tryz.ntmps44
  go_wp2_with fail
  go_region_held3 (fun w' => w'.cell? ⟨w.heap.size, 0, none⟩ = some (.pointer (some ⟨G, 0, none⟩)) ∧ w'.cell? ⟨w.heap.size, 1, none⟩ = some (.int .i64 (N : Int)))
    (first | exact ⟨t0, t1⟩ | exact ⟨d0, d1⟩)
    ((go_at_call 77; refine HS.out.mono ?_; rintro e w1 ⟨rfl, hW⟩; have d0 := cell_drew t0 hW; have d1 := cell_drew t1 hW; have H1 := Lib.hid (below_drew HB.out hW); clear hW))
  go_wp2_with fail
  go_ret
  exact ⟨ret_num (by have := HQ.out; rw [IntWalk.i64_in (z - (N : Int)) (by omega), IntWalk.i64_in _ (by omega)]; omega), H1.out⟩
theorem fits_yes (hL : Lg ks B D L G n j S c w) (hg : Geo n j N K) : Calls Tryz.prog 34 #[lay G N] w fun e w' => e = .returned (.bool true) ∧ Below w.heap.size w w' := by
  have hb := new_below w (.cells #[.pointer (some ⟨G, 0, none⟩), .int .i64 (N : Int)] 77)
  have HS := Lib.hid (lblocks_any (hL.below hb) hg)
  have HB := Lib.hid hb
  obtain ⟨t0, t1⟩ := blk_pair (Blk.new w 77 [.pointer (some ⟨G, 0, none⟩), .int .i64 (N : Int)])
  have hN0 := hg.N0
  have hN1 := hg.N1
  have hK0 : 0 < K := hg.K0
  have hN2 : (1 : Int) ≤ (N : Int) := by omega
  have hN3 : (N : Int) ≤ 400 := by omega
  clear hb hL hg
  go_enter Tryz.func34, Tryz.ntmps34
  go_wp2_with (go_at_call 44; refine HS.out.mono ?_; rintro e w1 ⟨rfl, hW⟩; have H1 := Lib.hid (below_of HB.out hW); clear hW)
  go_ret
  exact ⟨rfl, H1.out⟩
end
end Go.Proofs.YtkmkblhmjeeaeaaGreatDoor
end

/-
  refused: what keeps changes from being made, whatever is free. Condition: the changes lie in memory.
-/

section
set_option linter.unusedSimpArgs false
set_option linter.unusedVariables false
set_option maxRecDepth 100000
namespace Go.Proofs.YtkmkblhmjeeaeaaGreatDoor
open Go.RowKit

abbrev chV (x : Cv) : Value := .agg #[.int .i64 x.no, .int .i64 x.k, .int .i64 x.m, .int .i64 x.o, .int .i64 x.g, .slice x.A x.n x.c, .bool x.drop]
theorem seven_at {w : World} {b : Nat} {t : TypeId} {x0 x1 x2 x3 x4 x5 x6 : Value} (h : Blk w b t [x0, x1, x2, x3, x4, x5, x6]) : w.cell? ⟨b, 0, none⟩ = some x0 ∧ w.cell? ⟨b, 1, none⟩ = some x1 ∧ w.cell? ⟨b, 2, none⟩ = some x2 ∧ w.cell? ⟨b, 3, none⟩ = some x3 ∧ w.cell? ⟨b, 4, none⟩ = some x4 ∧ w.cell? ⟨b, 5, none⟩ = some x5 ∧ w.cell? ⟨b, 6, none⟩ = some x6 :=
  ⟨h.cell 0, h.cell 1, h.cell 2, h.cell 3, h.cell 4, h.cell 5, h.cell 6⟩
/-- What is wrong with one change. -/
def oneErr (x : Cv) : Int := if x.drop = true then 0 else if chk x.k x.m x.o x.g ≠ 0 then chk x.k x.m x.o x.g else if 512 < x.n then 2 else 0
theorem firstErr_cons (x : Cv) (r : List Cv) : firstErr (x :: r) = if oneErr x ≠ 0 then oneErr x else firstErr r := by
  unfold oneErr
  rw [firstErr]
  by_cases hd : x.drop = true
  · simp [hd]
  · by_cases hc : chk x.k x.m x.o x.g = 0
    · by_cases hn : 512 < x.n
      · simp [hd, hc, hn]
      · simp [hd, hc, hn]
    · simp [hd, hc]

set_option maxHeartbeats 1000000 in
theorem crefused_any (w : World) (x : Cv) : Calls Tryz.prog 51 #[chV x] w fun e w' => e = .returned (.int .i64 (oneErr x)) ∧ Below w.heap.size w w' := by
  obtain ⟨no, k, m, o, g, A, n, c, drop⟩ := x
  have HB := Lib.hid (new_below w (.cells #[.int .i64 no, .int .i64 k, .int .i64 m, .int .i64 o, .int .i64 g, .slice A n c, .bool drop] 44))
  have h5 := (Blk.new w 44 [.int .i64 no, .int .i64 k, .int .i64 m, .int .i64 o, .int .i64 g, .slice A n c, .bool drop]).cell 5
  simp only [List.getElem?_cons_succ, List.getElem?_cons_zero] at h5
  cases drop with
  | true =>
    go_enter Tryz.func51, Tryz.ntmps51
    go_wp2_with fail
    go_ret
    exact ⟨rfl, HB.out⟩
  | false =>
    obtain ⟨z, hz⟩ : ∃ z, chk k m o g = z := ⟨_, rfl⟩
    have hzb := chk_bd k m o g
    rw [hz] at hzb
    obtain ⟨z0, z1⟩ := hzb
    have HZ := Lib.hid hz
    clear hz
    by_cases hz0 : z = 0
    · subst hz0
      by_cases hn : 512 < n
      · have hn' : (512 : Int) < n := by omega
        have HC : Hid (oneErr ⟨no, k, m, o, g, A, n, c, false⟩ = 2) := Lib.hid (by unfold oneErr; simp [HZ.out, hn])
        go_enter Tryz.func51, Tryz.ntmps51
        go_wp2_with (go_at_call 82; ((with_reducible refine (mcheck_any _ k m o g).mono ?_); rw [HZ.out]; rintro e w1 ⟨rfl, hW⟩; have d5 := cell_below h5 hW; have H1 := Lib.hid (below_of HB.out hW); clear hW))
        go_ret
        exact ⟨ret_num HC.out.symm, H1.out⟩
      · have hn' : decide ((512 : Int) < n) = false := by simp; omega
        have HC : Hid (oneErr ⟨no, k, m, o, g, A, n, c, false⟩ = 0) := Lib.hid (by unfold oneErr; simp [HZ.out, hn])
        go_enter Tryz.func51, Tryz.ntmps51
        go_wp2_with (go_at_call 82; ((with_reducible refine (mcheck_any _ k m o g).mono ?_); rw [HZ.out]; rintro e w1 ⟨rfl, hW⟩; have d5 := cell_below h5 hW; have H1 := Lib.hid (below_of HB.out hW); clear hW))
        go_ret
        exact ⟨ret_num HC.out.symm, H1.out⟩
    · have HC : Hid (oneErr ⟨no, k, m, o, g, A, n, c, false⟩ = z) := Lib.hid (by unfold oneErr; simp [HZ.out, hz0])
      obtain ⟨q1, q2, q3⟩ := eqB_false hz0
      go_enter Tryz.func51, Tryz.ntmps51
      go_wp2_with (go_at_call 82; ((with_reducible refine (mcheck_any _ k m o g).mono ?_); rw [HZ.out]; rintro e w1 ⟨rfl, hW⟩; have d5 := cell_below h5 hW; have H1 := Lib.hid (below_of HB.out hW); clear hW))
      go_ret
      exact ⟨ret_num HC.out.symm, H1.out⟩

/-- Is a change of a node that one ahead is of? -/
def twiceL (l : List Cv) (i : Nat) : Bool := match l[i]? with
  | some x => twiceAt l i x.no
  | none => false
/-- A set of numbers, as it lies: those of the first changes. -/
def SeenIs (w : World) (M : Nat) (l : List Cv) (i : Nat) : Prop := ∃ D : DataW Unit, w.ownsMap Tryz.prog 3 unitElem M i D ∧ Maps.IsMap D ∧ ∀ x : Int, Maps.has D (.int .i64 x) = (l.take i).any fun y => decide (y.no = x)
theorem SeenIs.below {w w' : World} {M i : Nat} {l : List Cv} (h : SeenIs w M l i) (hs : Below w.heap.size w w') : SeenIs w' M l i := by
  obtain ⟨D, h1, h2⟩ := h
  exact ⟨D, ownsMap_block h1 (hs.block M h1.lt), h2⟩
theorem SeenIs.lt {w : World} {M i : Nat} {l : List Cv} (h : SeenIs w M l i) : M < w.heap.size := by
  obtain ⟨D, h1, _⟩ := h
  exact h1.lt
section
variable {w : World} {ops : Array Oper} {rest : List Oper} {o : Oper} {a : Act} {Q : Exit → Act → World → Prop} {M i : Nat} {l : List Cv}
theorem wp_seen (hg : o.guard = none) (m x : Operand) (hop : o.op = Op.lookup 133 m x true) (h : SeenIs w M l i) (no : Int) (h0 : -9223372036854775808 ≤ no) (h1 : no ≤ 9223372036854775807) (b : Bool) (hb : twiceAt l i no = b) (hm : a.eval m = .map (some M)) (hx : a.eval x = .int .i64 no)
    (hK : wpList Tryz.prog ops Q rest (a.put o.dst (.tuple #[.agg #[], .bool b])) w) : wpList Tryz.prog ops Q (o :: rest) a w := by
  obtain ⟨D, h2, h3, h4⟩ := h
  have := h4 no
  unfold twiceAt at hb
  rw [hb] at this
  refine wpList_lookup_own_unit w hg m x _ hop _ _ ikey Tryz.underlying133 (Tryz.zeroValue111 w) M i D hm h2 _ _ hx (ikeyOf h0 h1) ?_
  rw [this]
  exact hK
theorem wp_saw (hg : o.guard = none) (m x v : Operand) (hop : o.op = Op.mapUpdate 133 m x v) (h : SeenIs w M l i) (hi : i ≤ 1000000) {y : Cv} (hy : l[i]? = some y) (h0 : -9223372036854775808 ≤ y.no) (h1 : y.no ≤ 9223372036854775807) (hm : a.eval m = .map (some M)) (hx : a.eval x = .int .i64 y.no) (hv : a.eval v = .agg #[])
    (hK : ∀ w', SeenIs w' M l (i + 1) → w.mapTurned w' M → wpList Tryz.prog ops Q rest (a.put o.dst undef) w') : wpList Tryz.prog ops Q (o :: rest) a w := by
  obtain ⟨D, h2, h3, h4⟩ := h
  refine wpList_mapUpdate_in w hg m x v _ hop _ _ ikey Tryz.underlying133 unitElem M i D hm h2 (by unfold maxLen; omega) _ _ _ hx hv (ikeyOf h0 h1) _ _ unitElem_mk fun w' g1 g2 => hK w' ⟨_, g1, h3.put _ _, fun z => ?_⟩ g2
  rw [any_snoc hy]
  by_cases hz : z = y.no
  · subst hz
    rw [Maps.has_put_same h3 (ikl _)]
    simp
  · rw [Maps.has_put_other (lit_ne hz), h4 z]
    have : decide (y.no = z) = false := by simpa using fun e => hz e.symm
    rw [this, Bool.or_false]
end
end Go.Proofs.YtkmkblhmjeeaeaaGreatDoor
end

/-
  refused: what keeps changes from being made, whatever is free: walked. Condition: the changes lie in memory.
-/

section
set_option linter.unusedSimpArgs false
set_option linter.unusedVariables false
set_option maxRecDepth 100000
namespace Go.Proofs.YtkmkblhmjeeaeaaGreatDoor
open Go.RowKit

set_option maxRecDepth 100000 in
set_option maxHeartbeats 8000000 in
theorem refused_all (w : World) (G N : Nat) (P : Option Addr) (len c : Nat) (l : List Cv) (hl : CvIn w P len l) (hb63 : ∀ x ∈ l, -9223372036854775808 ≤ x.no ∧ x.no ≤ 9223372036854775807) (hlen : len ≤ 1000000) :
    Calls Tryz.prog 26 #[lay G N, .slice P len c] w fun e w' => e = .returned (.int .i64 (chkL l N)) ∧ Below w.heap.size w w' := by
  have hb0 := new_below w (.cells #[.pointer (some ⟨G, 0, none⟩), .int .i64 (N : Int)] 77)
  have hk0 := Blk.new w 77 [.pointer (some ⟨G, 0, none⟩), .int .i64 (N : Int)]
  have HL := Lib.hid (And.intro hl (And.intro hb63 hl.len))
  have H0 := Lib.hid (And.intro hb0 hk0)
  have hmm := @run_makeMap Tryz.prog
  clear hl hb0 hk0 hb63
  go_enter Tryz.func26, Tryz.ntmps26
  go_wp2_with fail
  go_loopw [17] (fun iv wr => ∃ i : Nat, i ≤ len ∧ iv = .int .i64 i ∧ Hid (badNo N (l.take i) = false) ∧ Below w.heap.size w wr ∧ Blk wr w.heap.size 77 [.pointer (some ⟨G, 0, none⟩), .int .i64 (N : Int)]) (fun iv _ => len - (intOf iv).toNat)
  case atStart => exact ⟨0, Nat.zero_le _, rfl, Lib.hid rfl, H0.out.1, H0.out.2⟩
  case round =>
    obtain ⟨i, hi, rfl, hbad, hbel, hlay⟩ := hrel
    by_cases hlt : i < len
    · obtain ⟨g, o, rfl, hg, hc⟩ := (HL.out.1.below hbel).cells (by omega)
      obtain ⟨x, hx⟩ : ∃ x, l[i]? = some x := ⟨_, List.getElem?_eq_getElem (by have := HL.out.2.2; omega)⟩
      obtain ⟨c0, c1, c2, c3, c4, c5, c6⟩ := hc i x hx
      obtain ⟨t0, t1⟩ := blk_pair hlay
      have hlw := hlay.lt
      have hb1 := new_below wr (.cells #[.int .i64 x.no, .int .i64 x.k, .int .i64 x.m, .int .i64 x.o, .int .i64 x.g, .slice x.A x.n x.c, .bool x.drop] 44)
      have HX := Lib.hid (And.intro hx (And.intro (hlay.below hb1 hlw) (hbel.trans (hb1.mono hbel.size))))
      have hs := hbel.size
      clear hc hx hbel hlay hb1
      obtain ⟨no, xk, xm, xo, xg, xA, xn, xc, xd⟩ := x
      dsimp only at c0 c1 c2 c3 c4 c5 c6 HX
      by_cases hn : 0 ≤ no ∧ no < N
      · have HC : Hid (badNo N (l.take (i + 1)) = false) := Lib.hid (by
          unfold badNo
          rw [any_snoc HX.out.1]
          have := hbad.out
          unfold badNo at this
          rw [this]
          simp; omega)
        obtain ⟨hn0, hn1⟩ := hn
        go_wp2_with (go_at_call 50; ((with_reducible refine (ihas_yes no hn0 hn1).mono ?_); rintro e w3 ⟨rfl, hW⟩; have H3 := Lib.hid (And.intro (HX.out.2.2.trans (hW.mono HX.out.2.2.size)) (HX.out.2.1.below hW HX.out.2.1.lt)); clear hW))
        go_roundw
        case rel => exact ⟨i + 1, by omega, by go_num, HC, H3.out.1, H3.out.2⟩
        case measure => simp [intOf]; omega
      · have HC : Hid (chkL l N = 1) := Lib.hid (chkL_bad HX.out.1 (by simp; omega))
        go_wp2_with (go_at_call 50; ((with_reducible refine (ihas_no no (by omega)).mono ?_); rintro e w3 ⟨rfl, hW⟩; have H3 := Lib.hid (HX.out.2.2.trans (hW.mono HX.out.2.2.size)); clear hW))
        go_ret
        exact ⟨ret_num HC.out.symm, H3.out⟩
    · have HB : Hid (badNo N l = false) := Lib.hid (by have := hbad.out; rwa [List.take_of_length_le (by have := HL.out.2.2; omega)] at this)
      have hw0 := hbel.trans ((new_below wr (.map #[] 0)).mono hbel.size)
      have hseen : SeenIs (wr.alloc (.map #[] 0)) wr.heap.size l 0 := ⟨_, World.ownsMap_made _ _ _ _, Maps.isMap_empty, fun _ => rfl⟩
      have HS := Lib.hid (And.intro hw0 hseen)
      have hs0 := hbel.size
      clear hbad hbel hlay hw0 hseen
      go_wp2_with fail
      obtain ⟨W, hW⟩ : ∃ W, wr.alloc (.map #[] 0) = W := ⟨_, rfl⟩
      obtain ⟨M, hM⟩ : ∃ M, wr.heap.size = M := ⟨_, rfl⟩
      rw [hW] at HS ⊢
      rw [hM] at HS hs0 ⊢
      clear hW hM hlt hi
      go_loopw [30] (fun iv wr => ∃ i : Nat, i ≤ len ∧ iv = .int .i64 i ∧ Hid (twiceTo l i = false) ∧ Below w.heap.size w wr ∧ SeenIs wr M l i) (fun iv _ => len - (intOf iv).toNat)
      case atStart => exact ⟨0, Nat.zero_le _, rfl, Lib.hid rfl, HS.out.1, HS.out.2⟩
      case round =>
        clear HS
        obtain ⟨i, hi, rfl, htw, hbel, hsn⟩ := hrel
        by_cases hlt : i < len
        · obtain ⟨g, o, rfl, hg, hc⟩ := (HL.out.1.below hbel).cells (by omega)
          obtain ⟨x, hx⟩ : ∃ x, l[i]? = some x := ⟨_, List.getElem?_eq_getElem (by have := HL.out.2.2; omega)⟩
          obtain ⟨c0, c1, c2, c3, c4, c5, c6⟩ := hc i x hx
          have hno := HL.out.2.1 x (List.mem_of_getElem? hx)
          have hb1 := new_below wr (.cells #[.int .i64 x.no, .int .i64 x.k, .int .i64 x.m, .int .i64 x.o, .int .i64 x.g, .slice x.A x.n x.c, .bool x.drop] 44)
          have hb2 := new_below (wr.alloc (.cells #[.int .i64 x.no, .int .i64 x.k, .int .i64 x.m, .int .i64 x.o, .int .i64 x.g, .slice x.A x.n x.c, .bool x.drop] 44)) (.cells #[] 111)
          have HX := Lib.hid (And.intro hx (And.intro (hsn.below hb1) (And.intro ((hsn.below hb1).below hb2) (hbel.trans ((below_of hb1 hb2).mono hbel.size)))))
          have hs := hbel.size
          clear hc hbel hb1 hb2 hsn hx
          cases htx : twiceAt l i x.no with
          | true =>
            have HC : Hid (chkL l N = 8) := Lib.hid (by unfold chkL; rw [HB.out, twiceTo_hit HX.out.1 htx]; rfl)
            have HT := Lib.hid htx
            clear htx
            obtain ⟨no, xk, xm, xo, xg, xA, xn, xc, xd⟩ := x
            dsimp only at c0 c1 c2 c3 c4 c5 c6 HX HT hno
            obtain ⟨n0, n1⟩ := hno
            go_wp2_with (first
              | (at_lookup; refine wp_seen rfl (.tmp 35) (.tmp 37) rfl HX.out.2.1 no n0 n1 true HT.out rfl rfl ?_)
              | go_in)
            go_ret
            exact ⟨ret_num HC.out.symm, HX.out.2.2.2⟩
          | false =>
            have HC : Hid (twiceTo l (i + 1) = false) := Lib.hid (by rw [twiceTo_succ HX.out.1, htw.out, htx]; rfl)
            have HT := Lib.hid htx
            clear htx
            obtain ⟨no, xk, xm, xo, xg, xA, xn, xc, xd⟩ := x
            dsimp only at c0 c1 c2 c3 c4 c5 c6 HX HT hno
            obtain ⟨n0, n1⟩ := hno
            go_wp2_with (first
              | (at_lookup; refine wp_seen rfl (.tmp 35) (.tmp 37) rfl HX.out.2.1 no n0 n1 false HT.out rfl rfl ?_)
              | (at_mapUpdate; refine wp_saw rfl (.tmp 42) (.tmp 44) (.tmp 45) rfl HX.out.2.2.1 (by omega) HX.out.1 n0 n1 rfl rfl rfl ?_; intro w5 hs5 ht5; have H5 := Lib.hid (And.intro hs5 (HX.out.2.2.2.trans (turned_below ht5 hs0 HX.out.2.2.2.size))); clear hs5 ht5)
              | go_in)
            go_roundw
            case rel => exact ⟨i + 1, by omega, by go_num, HC, H5.out.2, H5.out.1⟩
            case measure => simp [intOf]; omega
        · have HT : Hid (twiceTo l l.length = false) := Lib.hid (by have := htw.out; rwa [show i = l.length by have := HL.out.2.2; omega] at this)
          have HW := Lib.hid hbel
          clear htw hbel hsn
          go_wp2_with fail
          clear hi hlt
          obtain ⟨wo, hwo⟩ : ∃ wo, wo = wr := ⟨_, rfl⟩
          rw [← hwo] at HW ⊢
          clear hwo
          go_loopw [49] (fun iv wr => ∃ i : Nat, i ≤ len ∧ iv = .int .i64 i ∧ Hid (firstErr l = firstErr (l.drop i)) ∧ Below w.heap.size w wr) (fun iv _ => len - (intOf iv).toNat)
          case atStart => exact ⟨0, Nat.zero_le _, rfl, Lib.hid rfl, HW.out⟩
          case round =>
            clear HW
            obtain ⟨i, hi, rfl, hf, hbel⟩ := hrel
            by_cases hlt : i < len
            · obtain ⟨g, o, rfl, hg, hc⟩ := (HL.out.1.below hbel).cells (by omega)
              obtain ⟨x, hx⟩ : ∃ x, l[i]? = some x := ⟨_, List.getElem?_eq_getElem (by have := HL.out.2.2; omega)⟩
              obtain ⟨c0, c1, c2, c3, c4, c5, c6⟩ := hc i x hx
              have hF := hf.out
              rw [firstErr_drop hx, firstErr_cons] at hF
              have hb1 := new_below wr (.cells #[.int .i64 x.no, .int .i64 x.k, .int .i64 x.m, .int .i64 x.o, .int .i64 x.g, .slice x.A x.n x.c, .bool x.drop] 44)
              have HX := Lib.hid (And.intro hF (hbel.trans (hb1.mono hbel.size)))
              obtain ⟨z, hz⟩ : ∃ z, oneErr x = z := ⟨_, rfl⟩
              have HZ := Lib.hid hz
              have hs := hbel.size
              clear hc hbel hb1 hx hf hF hz
              obtain ⟨no, xk, xm, xo, xg, xA, xn, xc, xd⟩ := x
              dsimp only at c0 c1 c2 c3 c4 c5 c6 HX HZ
              by_cases hz0 : z = 0
              · have HC : Hid (firstErr l = firstErr (l.drop (i + 1))) := Lib.hid (by rw [HX.out.1, HZ.out, hz0]; simp)
                go_wp2_with (go_at_call 51; ((with_reducible refine (crefused_any _ ⟨no, xk, xm, xo, xg, xA, xn, xc, xd⟩).mono ?_); rw [HZ.out, hz0]; rintro e w3 ⟨rfl, hW⟩; have H3 := Lib.hid (HX.out.2.trans (hW.mono HX.out.2.size)); clear hW))
                go_roundw
                case rel => exact ⟨i + 1, by omega, by go_num, HC, H3.out⟩
                case measure => simp [intOf]; omega
              · have HC : Hid (chkL l N = z) := Lib.hid (by unfold chkL; rw [HB.out, HT.out, HX.out.1, HZ.out]; simp [hz0])
                obtain ⟨q1, q2, q3⟩ := eqB_false hz0
                go_wp2_with (go_at_call 51; ((with_reducible refine (crefused_any _ ⟨no, xk, xm, xo, xg, xA, xn, xc, xd⟩).mono ?_); rw [HZ.out]; rintro e w3 ⟨rfl, hW⟩; have H3 := Lib.hid (HX.out.2.trans (hW.mono HX.out.2.size)); clear hW))
                go_ret
                exact ⟨ret_num HC.out.symm, H3.out⟩
            · have HC : Hid (chkL l N = 0) := Lib.hid (by
                unfold chkL
                rw [HB.out, HT.out, hf.out, List.drop_eq_nil_of_le (by have := HL.out.2.2; omega)]
                rfl)
              have HW := Lib.hid hbel
              clear hbel hf
              go_wp2_with fail
              go_ret
              exact ⟨ret_num HC.out.symm, HW.out⟩
end Go.Proofs.YtkmkblhmjeeaeaaGreatDoor
end

/-
  Is a data sector blank; the front; a node's sector. Conditions: the log is at rest on a disk that has power; the sector is there; the node is right.
-/

section
set_option linter.unusedSimpArgs false
set_option linter.unusedVariables false
set_option maxRecDepth 100000
namespace Go.Proofs.YtkmkblhmjeeaeaaGreatDoor
open Go.RowKit

section
variable {ks : List B32} {B D L G n j N K : Nat} {S : Nat → List B8} {c : Nat} {w : World}
theorem blank_any (hL : Lg ks B D L G n j S c w) (hg : Geo n j N K) (k : Nat) (hk : k < 1 + N + K) (b : Bool) (hb : decide (dvj j S k = zeros64) = b) :
    Calls Tryz.prog 36 #[lay G N, .int .i64 k] w fun e w' => e = .returned (.tuple #[.bool b, .int .i64 0]) ∧ Below w.heap.size w w' := by
  have hbx := new_below w (.cells #[.pointer (some ⟨G, 0, none⟩), .int .i64 (N : Int)] 77)
  have HS := Lib.hid (lg_read (hL.below hbx) hg k hk)
  have HB := Lib.hid (And.intro hbx hb)
  obtain ⟨t0, t1⟩ := blk_pair (Blk.new w 77 [.pointer (some ⟨G, 0, none⟩), .int .i64 (N : Int)])
  clear hL hg hbx hb hk
  go_enter Tryz.func36, Tryz.ntmps36
  go_wp2_with (first
    | (go_at_call 32; refine HS.out.mono ?_; rintro e w1 ⟨P, q, rfl, hv, hW⟩; have H1 := Lib.hid (And.intro hv (below_of HB.out.1 hW)); clear hv hW)
    | (go_at_call 59; refine (sector_none _).mono ?_; rintro e w2 ⟨rfl, hB, hW⟩; have H2 := Lib.hid (And.intro hB (And.intro (H1.out.1.below hW) (below_of H1.out.2 hW))); clear hB hW)
    | (go_at_call 45; refine (equal_bts H2.out.2.1 (Bts.whole H2.out.1 (.inl rfl) (A := fun _ => True) trivial (by simp) (by omega)) HB.out.2).mono ?_; rintro e w3 ⟨rfl, rfl⟩))
  go_ret2
  exact ⟨rfl, H2.out.2.2⟩
end

def nameB : List B8 := [67, 82, 69, 69, 76]
/-- The front of a table of so many nodes. -/
def frontN (ks : List B32) (N : Nat) : List B8 := pad64 (nameB ++ (big 4 N ++ sha ks (framesOf [nameB, big 4 N])))
theorem frontN_length (ks : List B32) (N : Nat) : (frontN ks N).length = 64 := by
  unfold frontN
  rw [pad64_length]
  rw [List.length_append, List.length_append, sha_length, big_length]
  simp [nameB]
theorem nameB_cells : Vb nameB = [.int .u8 67, .int .u8 82, .int .u8 69, .int .u8 69, .int .u8 76] := by simp [Vb, nameB, nb]
theorem parts2 {w : World} {u0 u1 : Value} {x0 x1 : List B8} (h0 : HB w u0 x0) (h1 : HB w u1 x1) :
    ∀ (i : Nat) v x, [u0, u1][i]? = some v → [x0, x1][i]? = some x → HB w v x := by
  intro i v x hv hx
  match i, hv, hx with
  | 0, hv, hx => simp at hv hx; subst hv hx; exact h0
  | 1, hv, hx => simp at hv hx; subst hv hx; exact h1
  | k + 2, hv, _ => simp at hv
theorem parts3 {w : World} {u0 u1 u2 : Value} {x0 x1 x2 : List B8} (h0 : HB w u0 x0) (h1 : HB w u1 x1) (h2 : HB w u2 x2) :
    ∀ (i : Nat) v x, [u0, u1, u2][i]? = some v → [x0, x1, x2][i]? = some x → HB w v x := by
  intro i v x hv hx
  match i, hv, hx with
  | 0, hv, hx => simp at hv hx; subst hv hx; exact h0
  | 1, hv, hx => simp at hv hx; subst hv hx; exact h1
  | 2, hv, hx => simp at hv hx; subst hv hx; exact h2
  | k + 3, hv, _ => simp at hv

theorem two_txts {w : World} {g a b : Nat} {x y : List B8} {t u : TypeId} (hb : Blk w g 40 [.slice (some ⟨a, 0, none⟩) x.length x.length, .slice (some ⟨b, 0, none⟩) y.length y.length]) (hx : FBlk w a t (Vb x)) (hy : FBlk w b u (Vb y)) (h1 : x.length ≤ 1000000) (h2 : y.length ≤ 1000000) : Txts w w.heap.size (some ⟨g, 0, none⟩) 2 [x, y] := by
  have txt : ∀ {c : Nat} {s : TypeId} {z : List B8}, FBlk w c s (Vb z) → z.length ≤ 1000000 → Txt w w.heap.size (some ⟨c, 0, none⟩) z.length z.length z := fun {c s z} h hz => ⟨rfl, Nat.le_refl _, by unfold maxLen; omega, fun _ => ⟨c, 0, rfl, by have := h.lt; omega, fun j hj => by
    rw [Nat.zero_add, h.cell, Vb_get, List.getElem?_eq_getElem hj]
    rw [List.getD_eq_getElem?_getD, List.getElem?_eq_getElem hj]
    rfl⟩⟩
  refine ⟨rfl, fun _ => ⟨g, 0, rfl, by have := hb.lt; omega, fun i z hz => ?_⟩⟩
  match i, hz with
  | 0, hz =>
    simp only [List.getElem?_cons_zero, Option.some.injEq] at hz
    subst hz
    exact ⟨_, _, _, hb.cell 0, txt hx h1⟩
  | 1, hz =>
    simp only [List.getElem?_cons_zero, List.getElem?_cons_succ, Option.some.injEq] at hz
    subst hz
    exact ⟨_, _, _, hb.cell 1, txt hy h2⟩
  | k + 2, hz => simp at hz

set_option maxHeartbeats 1000000 in
theorem front_any (ks : List B32) (w : World) (N : Nat) (hK : Roots ks w) (hN : N ≤ 1000000) :
    Calls Tryz.prog 69 #[.int .i64 N] w fun e w' => ∃ g, e = .returned (.slice (some ⟨g, 0, none⟩) 64 64) ∧ w.heap.size ≤ g ∧ Blk w' g 5 (Vb (frontN ks N)) ∧ Below w.heap.size w w' := by
  have hpos := hK.pos
  have HK := Lib.hid hK
  have hz := zero32
  have hs32 := slice32
  have kc := fun (w : World) (C : Array Value) (n c : Nat) => Lib.run_convert_bytes_const (P := Tryz.prog) w 40 5 C n c Tryz.underlying40 Tryz.underlying5
  have hb0 := new_below w (.cells #[.int .u8 67, .int .u8 82, .int .u8 69, .int .u8 69, .int .u8 76] 5 (5, 6))
  have hk0 : FBlk (w.alloc (.cells #[.int .u8 67, .int .u8 82, .int .u8 69, .int .u8 69, .int .u8 76] 5 (5, 6))) w.heap.size 5 (Vb nameB) := by rw [nameB_cells]; exact ⟨_, heap_alloc_new w _⟩
  have H0 := Lib.hid (And.intro hb0 hk0)
  clear hK hb0 hk0
  go_enter Tryz.func69, Tryz.ntmps69
  go_wp2_with fail
  refine (inBytes4 _ N (by omega)).mono ?_
  rintro e w1 ⟨rfl, h1, h2⟩
  rw [World.size_alloc] at h1
  have hn1 := H0.out.2.below h2
  have hb1 := below_of H0.out.1 h2
  have hs1 : w.heap.size + 1 ≤ w1.heap.size := by have := h2.size; simpa using this
  have hlt1 := h1.lt
  have hb := new_below w1 (.cells #[.slice (some ⟨w.heap.size, 0, none⟩) 5 5, .slice (some ⟨w.heap.size + 1, 0, none⟩) 4 4] 40)
  have hblk := Blk.new w1 40 [.slice (some ⟨w.heap.size, 0, none⟩) 5 5, .slice (some ⟨w.heap.size + 1, 0, none⟩) 4 4]
  have hp := two_txts (x := nameB) (y := big 4 N) (by rw [big_length]; exact hblk) (hn1.below hb) ⟨_, h1.below hb h1.lt⟩ (by simp [nameB]) (by rw [big_length]; omega)
  have H1 := Lib.hid (And.intro hn1 (And.intro h1 (And.intro (below_of hb1 hb) (And.intro hp hb))))
  clear h1 h2 hn1 hb1 hb hblk hp
  go_wp2_with fail
  refine (framed_any ks (w1.alloc (.cells #[.slice (some ⟨w.heap.size, 0, none⟩) 5 5, .slice (some ⟨w.heap.size + 1, 0, none⟩) 4 4] 40)) (some ⟨w1.heap.size, 0, none⟩) 2 2 [nameB, big 4 N] (HK.out.below H1.out.2.2.1 hpos) H1.out.2.2.2.1 (by omega) (by intro x hx; simp only [List.mem_cons, List.not_mem_nil, or_false] at hx; rcases hx with rfl | rfl <;> simp [nameB, big_length])).mono ?_
  rintro e w2 ⟨rfl, h3⟩
  have hs2 : w1.heap.size + 1 ≤ w2.heap.size := by have := h3.size; simpa using this
  have h4 := below_of H1.out.2.2.2.2 h3
  have H2 := Lib.hid (And.intro (H1.out.1.below h4) (And.intro (H1.out.2.1.below h4 (by omega)) (below_of H1.out.2.2.1 h3)))
  clear h3 h4
  have hd := sha_length ks (framesOf [nameB, big 4 N])
  have HD := Lib.hid (show frontN ks N = pad64 (nameB ++ (big 4 N ++ sha ks (framesOf [nameB, big 4 N]))) from rfl)
  generalize sha ks (framesOf [nameB, big 4 N]) = d at hd HD
  have HDD := Lib.hid hd
  have i32 : (Tryz.prog.info? 168).map (·.size) = some (Vb d).length := info31.trans (by rw [Vb_length, hd])
  have I32 := Lib.hid i32
  clear hd i32
  go_wp2_with (refine wpList_store_blk rfl 168 (.tmp 5) (.tmp 13) rfl w2.heap.size 0 (Vb d) rfl rfl (Blk.new w2 168 (List.replicate 32 (.int .u8 0))) (by simp [Vb_length, HDD.out]) I32.out (Vb_oneCell _) ?_; intro w3 hA hO)
  rw [over_whole (by simp [Vb_length, HDD.out])] at hA
  have hb3 : Below w2.heap.size w2 w3 := (new_below w2 _).trans (hO.below (B := w2.heap.size) (by simp) (by simp))
  have hb4 := new_below w3 (.cells #[.slice (some ⟨w.heap.size, 0, none⟩) 5 5, .slice (some ⟨w.heap.size + 1, 0, none⟩) 4 4, .slice (some ⟨w2.heap.size, 0, none⟩) 32 32] 40)
  have hq := Blk.new w3 40 [.slice (some ⟨w.heap.size, 0, none⟩) 5 5, .slice (some ⟨w.heap.size + 1, 0, none⟩) 4 4, .slice (some ⟨w2.heap.size, 0, none⟩) 32 32]
  have h5 := (H2.out.1.below hb3).below hb4
  have h6 := (H2.out.2.1.below hb3 (by omega)).below hb4 (by have := hb3.size; omega)
  have h32 := hA.below hb4 hA.lt
  have hbel := below_of (below_of H2.out.2.2 hb3) hb4
  have hps := parts3 (show HB _ (.slice (some ⟨w.heap.size, 0, none⟩) 5 5) nameB from h5.hb (c := 5)) (Bts.whole (A := fun _ => True) h6 (.inl rfl) trivial (big_length 4 N) (by omega)).hb (Bts.whole (A := fun _ => True) h32 (.inr rfl) trivial HDD.out (by omega)).hb
  have H4 := Lib.hid (And.intro hq (And.intro hps hbel))
  clear hA hO hb3 hb4 hq h5 h6 h32 hbel hps
  go_wp2_with fail
  refine (sector_joins _ w3.heap.size 3 3 _ [nameB, big 4 N, d] (by omega) (by omega) rfl rfl (blk_read H4.out.1) H4.out.2.1 (Nat.le_refl _) (by simp [big_length, nameB, HDD.out])).mono ?_
  rintro e w5 ⟨rfl, h5, h6⟩
  have H5 := Lib.hid (And.intro h5 (And.intro h6.size (below_of H4.out.2.2 h6)))
  clear h5 h6
  go_wp2_with fail
  go_ret
  refine ⟨_, rfl, ?_, ?_, H5.out.2.2⟩
  · have := H4.out.2.2.size; simpa using this
  · rw [HD.out]
    simpa using H5.out.1
end Go.Proofs.YtkmkblhmjeeaeaaGreatDoor
end

/-
  nodesBy: how many nodes a front tells. Conditions: it is the front of a table; at most a million nodes.
-/

section
set_option linter.unusedSimpArgs false
set_option linter.unusedVariables false
set_option maxRecDepth 100000
namespace Go.Proofs.YtkmkblhmjeeaeaaGreatDoor
open Go.RowKit Go.Maps

theorem big_snoc_ (size n : Nat) : big (size + 1) n = big size (n / 256) ++ [BitVec.ofNat 8 n] := by
  unfold big
  rw [List.range_succ, List.map_append]
  congr 1
  · apply List.map_congr_left
    intro j hj
    have hj := List.mem_range.1 hj
    unfold bigAt
    congr 1
    rw [show 8 * (size + 1 - 1 - j) = 8 + 8 * (size - 1 - j) by omega, Nat.pow_add, ← Nat.div_div_eq_div_mul]
  · unfold bigAt
    simp
theorem fromB_big_ : ∀ (size n : Nat), n < 256 ^ size → fromB (big size n) = n
  | 0, n, h => by
    have : n = 0 := by simpa using h
    subst this
    rfl
  | size + 1, n, h => by
    rw [big_snoc_, fromB_snoc, fromB_big_ size (n / 256) (by rw [Nat.pow_succ] at h; omega)]
    simp
    omega
theorem sub_mid_ (a b c : List B8) {o n : Nat} (ha : a.length = o) (hb : b.length = n) : sub (a ++ (b ++ c)) o n = b := by
  subst ha hb
  unfold sub
  rw [List.drop_left, List.take_left]
theorem frontN_sub (ks : List B32) (N : Nat) : sub (frontN ks N) 5 4 = big 4 N := by
  unfold frontN pad64
  rw [List.append_assoc, List.append_assoc]
  exact sub_mid_ _ _ _ rfl (big_length 4 N)
theorem frontN_num (ks : List B32) {N : Nat} (hN : N ≤ 1000000) : fromB (sub (frontN ks N) 5 4) = N := by
  rw [frontN_sub]
  exact fromB_big_ 4 N (by omega)

set_option maxRecDepth 100000 in
set_option maxHeartbeats 2000000 in
theorem nodesby_yes (ks : List B32) (w : World) (A : Nat → Prop) (g o c N : Nat) (hK : Roots ks w) (hx : Bts A w (.slice (some ⟨g, o, none⟩) 64 c) (frontN ks N)) (hN : N ≤ 1000000) (hc : 64 ≤ c) (hcm : c ≤ 9223372036854775807) :
    Calls Tryz.prog 33 #[.slice (some ⟨g, o, none⟩) 64 c] w fun e w' => e = .returned (.tuple #[.int .i64 (N : Int), .bool true]) ∧ Below w.heap.size w w' := by
  have hpos := hK.pos
  have hs := hx.sub_ (k := 5) (n := 4) (c' := c - 5) (by omega) (by omega) (by omega)
  have hnum := frontN_num ks hN
  have H := Lib.hid (And.intro hK (And.intro hx (And.intro hs hnum)))
  clear hK hx hs hnum
  go_enter Tryz.func33, Tryz.ntmps33
  go_wp2_with (first
    | (go_at_call 68; refine (fromBytes_any _ A _ 4 (c - 5) (sub (frontN ks N) 5 4) H.out.2.2.1 (by omega)).mono ?_; rw [H.out.2.2.2]; rintro e w2 ⟨rfl, rfl⟩)
    | (go_at_call 69; refine (front_any ks _ N H.out.1 hN).mono ?_; rintro e w3 ⟨g3, rfl, hg3, hB, hW⟩; have H3 := Lib.hid (And.intro hB (And.intro hW (H.out.2.1.below hW))); clear hB hW)
    | (go_at_call 45; refine (equal_bts H3.out.2.2 (Bts.whole H3.out.1 (.inl rfl) (A := fun _ => True) trivial (frontN_length ks N) (by omega)) (b := true) (by simp)).mono ?_; rintro e w4 ⟨rfl, rfl⟩)
    | go_in)
  go_ret2
  exact ⟨rfl, H3.out.2.1⟩
end Go.Proofs.YtkmkblhmjeeaeaaGreatDoor
end

/-
  What a node's sector tells, plainly, and what its blocks' sectors have together. Plain lists; no condition.
-/

section
set_option linter.unusedSimpArgs false
set_option linter.unusedVariables false
set_option maxRecDepth 100000
namespace Go.Proofs.YtkmkblhmjeeaeaaGreatDoor
open Go.RowKit Go.Maps

theorem numS_back {k m o g : Int} (h : chk k m o g = 0) : numS k m o g / 17592186044416 = k ∧ numS k m o g / 4294967296 % 4096 = m ∧ numS k m o g / 65536 % 65536 = o ∧ numS k m o g % 65536 = g := by
  obtain ⟨⟨a0, a1⟩, ⟨b0, b1⟩, ⟨c0, c1⟩, d0, d1⟩ := chk_zero h
  unfold numS
  refine ⟨?_, ?_, ?_, ?_⟩ <;> omega
theorem numS_numB {k m o g : Int} (h : chk k m o g = 0) : numB (numS k m o g) := by
  obtain ⟨h1, h2, h3, h4⟩ := numS_back h
  unfold numB
  rw [h1, h2, h3, h4]
  exact h
theorem noteN_stat (h : Hd) : sub (noteN h) 1 8 = big 8 (numS h.k h.m h.o h.g).toNat := by
  unfold noteN pad64
  rw [← List.singleton_append, List.append_assoc, List.append_assoc]
  exact sub_mid_ _ _ _ rfl (big_length 8 _)
theorem noteN_size (h : Hd) : sub (noteN h) 9 4 = big 4 h.data.length := by
  have e : ∃ z, noteN h = ([1] ++ big 8 (numS h.k h.m h.o h.g).toNat) ++ (big 4 h.data.length ++ z) := by
    unfold noteN pad64
    rw [← List.singleton_append, ← List.append_assoc, List.append_assoc, List.append_assoc]
    exact ⟨_, rfl⟩
  obtain ⟨z, hz⟩ := e
  rw [hz]
  exact sub_mid_ _ _ _ (by rw [List.length_append, big_length]; rfl) (big_length 4 _)
theorem flat4_at : ∀ {l : List Nat} {i b : Nat}, l[i]? = some b → (((l.map (big 4)).flatten).drop (4 * i)).take 4 = big 4 b
  | [], i, b, h => by simp at h
  | x :: l, 0, b, h => by
    simp only [List.getElem?_cons_zero, Option.some.injEq] at h
    subst h
    rw [List.map_cons, List.flatten_cons, Nat.mul_zero, List.drop_zero, List.take_left' (big_length 4 x)]
  | x :: l, i + 1, b, h => by
    rw [List.getElem?_cons_succ] at h
    rw [List.map_cons, List.flatten_cons, show 4 * (i + 1) = (big 4 x).length + 4 * i by rw [big_length]; omega, ← List.drop_drop, List.drop_left' rfl]
    exact flat4_at h
theorem noteN_bl {h : Hd} {i b : Nat} (hb : h.bl[i]? = some b) : sub (noteN h) (13 + 4 * i) 4 = big 4 b := by
  have hi := (List.getElem?_eq_some_iff.1 hb).1
  unfold noteN pad64
  rw [← List.singleton_append, ← List.append_assoc, ← List.append_assoc, List.append_assoc]
  unfold sub
  have hl : ([1] ++ big 8 (numS h.k h.m h.o h.g).toNat ++ big 4 h.data.length).length = 13 := by rw [List.length_append, List.length_append, big_length, big_length]; rfl
  rw [← List.drop_drop, List.drop_left' hl, List.drop_append_of_le_length (by rw [flat4_length]; omega), List.take_append_of_le_length (by rw [List.length_drop, flat4_length]; omega)]
  exact flat4_at hb

/-- What so many of its blocks have, one behind another. -/
def datas (xs : List B8) (n : Nat) : List B8 := ((List.range n).map fun q => pad64 (piece xs q)).flatten
theorem datas_succ (xs : List B8) (n : Nat) : datas xs (n + 1) = datas xs n ++ pad64 (piece xs n) := by
  unfold datas
  rw [List.range_succ, List.map_append, List.flatten_append]
  simp
theorem datas_eq (xs : List B8) : ∀ n, 64 * n ≤ xs.length + 63 → datas xs n = xs.take (64 * n) ++ List.replicate (64 * n - xs.length) 0
  | 0, _ => by simp [datas]
  | n + 1, h => by
    rw [datas_succ, datas_eq xs n (by omega)]
    have h0 : 64 * n - xs.length = 0 := by omega
    rw [h0, List.replicate_zero, List.append_nil]
    unfold pad64 piece
    rw [← List.append_assoc, show 64 * (n + 1) = 64 * n + 64 by omega, List.take_add, List.length_take, List.length_drop]
    congr 2
    omega
theorem datas_length (xs : List B8) {n : Nat} (h : 64 * n ≤ xs.length + 63) : (datas xs n).length = 64 * n := by
  rw [datas_eq xs n h, List.length_append, List.length_take, List.length_replicate]
  omega
theorem datas_whole (xs : List B8) : (datas xs (blks xs.length)).take xs.length = xs := by
  have h : 64 * blks xs.length ≤ xs.length + 63 := by unfold blks; omega
  have h2 : xs.length ≤ 64 * blks xs.length := by unfold blks; omega
  rw [datas_eq xs _ h, List.take_of_length_le h2, List.take_left]
end Go.Proofs.YtkmkblhmjeeaeaaGreatDoor
end
