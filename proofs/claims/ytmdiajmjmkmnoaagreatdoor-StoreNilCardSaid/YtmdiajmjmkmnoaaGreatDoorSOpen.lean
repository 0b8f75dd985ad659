/-
  Opening what comes in: a package and a connection of the document's; the signs out of their variable. Plain theorems on readings.
-/
import Derived.Test.YtmdiajmjmkmnoaaGreatDoorSNil
import Derived.Test.YtmdiajmjmkmnoaaGreatDoorOKit
import Derived.Lib.LaidU8
import Derived.Test.YtmdiajmjmkmnoaaGreatDoorRows
set_option linter.unusedSimpArgs false
set_option linter.unusedVariables false
set_option maxRecDepth 100000
namespace Go.Proofs.YtmdiajmjmkmnoaaGreatDoor
open Go.ChangeShapes Go.WideShapes Go.ChangeAt Go.RowKit

theorem cInt : Tryz.prog.cellsOf 3 = 1 := by kernel_rfl
theorem cU8 : Tryz.prog.cellsOf 5 = 1 := by kernel_rfl
theorem cStr : Tryz.prog.cellsOf 9 = 1 := by kernel_rfl
theorem c32 : Tryz.prog.cellsOf 74 = 32 := by kernel_rfl
theorem cRev : Tryz.prog.cellsOf 80 = 34 := by kernel_rfl
theorem cRevs : Tryz.prog.cellsOf 22 = 1 := by kernel_rfl
theorem cPair : Tryz.prog.cellsOf 25 = 2 := by kernel_rfl
theorem spot_no {w : World} {a : Addr} {u : Value} (h : w.cell? a = some u) : a.spot = none := by
  unfold World.cell? at h
  split at h
  · split at h
    · cases h
    · rename_i hs; simpa using hs
  · cases h
section
variable {H : Type} {enc : TypeId × Value → H} {w : World} {base : Nat} {spare : Nat → Bool} {held : Bool}
theorem came_rev {fuel : Nat} {cs : List Value} {x : DataW H × List MemPlace} (hl : cs.length = 34) (h : DataW.trod enc Tryz.prog w base spare held fuel 80 cs = some x) : ∃ r : RevR, r.sl.length = 32 ∧ cs = rvC r := by
  obtain ⟨n0, y0, k0, _⟩ := struct_open (i := 0) (t := 3) (o := 0) (by kernel_rfl) h
  obtain ⟨n1, y1, k1, _⟩ := struct_open (i := 1) (t := 74) (o := 1) (by kernel_rfl) h
  obtain ⟨n2, y2, k2, _⟩ := struct_open (i := 2) (t := 3) (o := 33) (by kernel_rfl) h
  rw [cInt] at k0 k2
  rw [c32] at k1
  obtain ⟨a, e0, _, _⟩ := DataW.trod_int Tryz.underlying3 k0
  obtain ⟨c, e2, _, _⟩ := DataW.trod_int Tryz.underlying3 k2
  obtain ⟨hl1, f, hf⟩ := arr_open Tryz.underlying74 k1
  have each : ∀ i, i < 32 → ∃ z : Int, cs[1 + i]? = some (.int .u8 z) := by
    intro i hi
    obtain ⟨y, hy, _⟩ := hf i hi
    rw [cU8, Nat.mul_one] at hy
    obtain ⟨z, ez, _, _⟩ := DataW.trod_int Tryz.underlying5 hy
    exact ⟨z, piece2 ez⟩
  obtain ⟨g, hg⟩ := Go.Deep.choose_lt each
  refine ⟨⟨a, (List.range 32).map g, c⟩, by simp, ?_⟩
  apply List.ext_getElem?
  intro j
  unfold rvC
  rcases Nat.lt_or_ge j 1 with hj | hj
  · obtain rfl : j = 0 := by omega
    exact piece1 e0
  · obtain ⟨i, rfl⟩ : ∃ i, j = i + 1 := ⟨j - 1, by omega⟩
    rw [List.getElem?_cons_succ]
    rcases Nat.lt_or_ge i 32 with hi | hi
    · rw [List.getElem?_append_left (by simpa [U_length] using hi), U_get, List.getElem?_map, List.getElem?_range hi]
      have := hg i hi
      rw [show 1 + i = i + 1 by omega] at this
      exact this
    · rw [List.getElem?_append_right (by simpa [U_length] using hi), U_length, List.length_map, List.length_range]
      rcases Nat.lt_or_ge i 33 with h3 | h3
      · obtain rfl : i = 32 := by omega
        exact piece1 e2
      · have h4 : cs[i + 1]? = none := List.getElem?_eq_none (by omega)
        have h5 : ([Value.int .i64 c] : List Value)[i - 32]? = none := List.getElem?_eq_none (by show 1 ≤ i - 32; omega)
        rw [h4, h5]
theorem came_revs {fuel : Nat} {v : Value} {x : DataW H × List MemPlace} (h : DataW.trod enc Tryz.prog w base spare held fuel 22 [v] = some x) : ∃ A n c rs, v = .slice A n c ∧ RIn w A n c rs := by
  rcases Go.Deep.open_slice Tryz.underlying22 h with ⟨hcs, _⟩ | ⟨a, len, cap, m, n, D, Pl, hcs, _, hl, hm, hmm, _, hx⟩
  · simp only [List.cons.injEq, and_true] at hcs
    subst hcs
    exact ⟨none, 0, 0, [], rfl, rfl, Nat.le_refl _, by omega, fun r hr => by simp at hr, fun h => absurd h (by omega)⟩
  · simp only [List.cons.injEq, and_true] at hcs
    subst hcs
    have hlm : len ≤ m := by rw [hmm]; split <;> omega
    have each : ∀ i, i < len → ∃ r : RevR, r.sl.length = 32 ∧ ∀ j v, (rvC r)[j]? = some v → w.cell? ((a.add (i * 34)).add j) = some v := by
      intro i hi
      obtain ⟨cs', h1, h2⟩ := hx i (by omega)
      rw [cRev] at h1
      obtain ⟨_, hlen, hcell⟩ := World.cells?_some h1
      obtain ⟨r, hr1, rfl⟩ := came_rev hlen h2
      refine ⟨r, hr1, fun j v hv => ?_⟩
      have hj := (List.getElem?_eq_some_iff.1 hv).1
      have := hcell j (by rw [← hlen]; exact hj)
      rw [this]
      exact hv
    have : Inhabited RevR := ⟨⟨0, [], 0⟩⟩
    obtain ⟨f, hf⟩ := Go.Deep.choose_lt each
    refine ⟨some a, len, cap, (List.range len).map f, rfl, by simp, hl, by unfold maxLen at hm; omega, fun r hr => ?_, fun hn => ?_⟩
    · obtain ⟨i, hi, rfl⟩ := List.mem_map.1 hr
      exact (hf i (by simpa using hi)).1
    · have d0 := (hf 0 hn).2 0 _ (rvC_no _)
      rw [Nat.zero_mul, show (a.add 0).add 0 = a by simp [Addr.add]] at d0
      have hsp := spot_no d0
      have hlt := World.block_lt_of_cell? w _ d0
      obtain ⟨b, o, sp⟩ := a
      simp only at hsp
      subst hsp
      refine ⟨b, o, rfl, hlt, fun i r hr j v hv => ?_⟩
      have hi : i < len := by
        have := (List.getElem?_eq_some_iff.1 hr).1
        simpa using this
      rw [List.getElem?_map, List.getElem?_range hi] at hr
      simp only [Option.map_some, Option.some.injEq] at hr
      subst hr
      have := (hf i hi).2 j v hv
      rw [padd, padd] at this
      exact this
theorem came_str {fuel : Nat} {cs : List Value} {x : DataW H × List MemPlace} (h : DataW.trod enc Tryz.prog w base spare held fuel 9 cs = some x) : ∃ s, cs = [.string s] := by
  obtain ⟨s, e, _⟩ := DataW.trod_string Tryz.underlying9 h
  exact ⟨s, e⟩
theorem came_pk {fuel : Nat} {cs : Array Value} {x : DataW H × List MemPlace} (hl : cs.size = 4) (h : DataW.trod enc Tryz.prog w base spare held fuel 24 cs.toList = some x) :
    ∃ nm pb act A n c rs, Value.agg cs = pkV nm pb act A n c ∧ RIn w A n c rs := by
  obtain ⟨l⟩ := cs
  match l, hl with
  | [c0, c1, c2, c3], _ =>
    obtain ⟨n0, y0, k0, _⟩ := struct_open (i := 0) (t := 9) (o := 0) (by kernel_rfl) h
    obtain ⟨n1, y1, k1, _⟩ := struct_open (i := 1) (t := 9) (o := 1) (by kernel_rfl) h
    obtain ⟨n2, y2, k2, _⟩ := struct_open (i := 2) (t := 3) (o := 2) (by kernel_rfl) h
    obtain ⟨n3, y3, k3, _⟩ := struct_open (i := 3) (t := 22) (o := 3) (by kernel_rfl) h
    rw [cStr] at k0 k1
    rw [cInt] at k2
    rw [cRevs] at k3
    simp only [List.drop_zero, List.drop_succ_cons, List.take_succ_cons, List.take_zero] at k0 k1 k2 k3
    obtain ⟨s0, e0⟩ := came_str k0
    obtain ⟨s1, e1⟩ := came_str k1
    obtain ⟨z2, e2, _, _⟩ := DataW.trod_int Tryz.underlying3 k2
    obtain ⟨A, n, c, rs, e3, hr⟩ := came_revs k3
    simp only [List.cons.injEq, and_true] at e0 e1 e2
    subst e0 e1 e2 e3
    exact ⟨s0, s1, z2, A, n, c, rs, rfl, hr⟩
theorem came_pair {fuel : Nat} {cs : List Value} {c0 c1 : Value} {x : DataW H × List MemPlace} (hc : cs = [c0, c1]) (h : DataW.trod enc Tryz.prog w base spare held fuel 25 cs = some x) : ∃ a b, c0 = .string a ∧ c1 = .string b := by
  subst hc
  obtain ⟨_, f, hf⟩ := arr_open Tryz.underlying25 h
  obtain ⟨y0, k0, _⟩ := hf 0 (by omega)
  obtain ⟨y1, k1, _⟩ := hf 1 (by omega)
  rw [cStr] at k0 k1
  simp only [Nat.zero_mul, Nat.one_mul, List.drop_zero, List.drop_succ_cons, List.take_succ_cons, List.take_zero] at k0 k1
  obtain ⟨s0, e0⟩ := came_str k0
  obtain ⟨s1, e1⟩ := came_str k1
  simp only [List.cons.injEq, and_true] at e0 e1
  exact ⟨s0, s1, e0, e1⟩
theorem came_cn {fuel : Nat} {cs : Array Value} {x : DataW H × List MemPlace} (hl : cs.size = 5) (h : DataW.trod enc Tryz.prog w base spare held fuel 27 cs.toList = some x) :
    ∃ a b c d e, Value.agg cs = cnV a b c d e := by
  obtain ⟨l⟩ := cs
  match l, hl with
  | [c0, c1, c2, c3, c4], _ =>
    obtain ⟨n0, y0, k0, _⟩ := struct_open (i := 0) (t := 25) (o := 0) (by kernel_rfl) h
    obtain ⟨n1, y1, k1, _⟩ := struct_open (i := 1) (t := 25) (o := 2) (by kernel_rfl) h
    obtain ⟨n2, y2, k2, _⟩ := struct_open (i := 2) (t := 9) (o := 4) (by kernel_rfl) h
    rw [cPair] at k0 k1
    rw [cStr] at k2
    simp only [List.drop_zero, List.drop_succ_cons, List.take_succ_cons, List.take_zero] at k0 k1 k2
    obtain ⟨s0, s1, rfl, rfl⟩ := came_pair rfl k0
    obtain ⟨s2, s3, rfl, rfl⟩ := came_pair rfl k1
    obtain ⟨s4, e4⟩ := came_str k2
    simp only [List.cons.injEq, and_true] at e4
    subst e4
    exact ⟨s0, s1, s2, s3, s4, rfl⟩
end

theorem gSg : Tryz.prog.globalNamed "creel/path.signs" = some 0 := by kernel_rfl
theorem gSgT : (Tryz.prog.globals[0]?).map (·.type) = some 135 := by kernel_rfl
theorem cSg2 : Tryz.prog.cellsOf 134 = 2 := by kernel_rfl
theorem signs_from {W : World} {l : List (String × DataW Unit)} (h : laidMet Tryz.prog l W) (hm : ("creel/path.signs", Rows.laid_creel_path_signs) ∈ l) : Signs W := by
  obtain ⟨g', t', cs, fuel, p, hg', ht', hvar, hd⟩ := Lib.laidMet.reads h hm
  obtain rfl := Option.some.inj (gSg.symm.trans hg')
  obtain rfl := Option.some.inj (gSgT.symm.trans ht')
  obtain ⟨_, f, hf⟩ := arr_open Tryz.underlying135 hd
  have two : ∀ i a b, i < 5 → (∀ ds, (Rows.laid_creel_path_signs : DataW Unit) = .agg ds → ds[i]? = some (.agg [.lit (.int .u8 a), .lit (.int .u8 b)])) → cs.toList[i * 2]? = some (.int .u8 a) ∧ cs.toList[i * 2 + 1]? = some (.int .u8 b) := by
    intro i a b hi hds
    obtain ⟨y, hy, hyd⟩ := hf i hi
    rw [cSg2] at hy
    have e1 := hyd _ rfl
    have e2 := hds _ rfl
    rw [e1] at e2
    injection e2 with e2
    obtain ⟨n0, z0, k0, d0⟩ := struct_open (i := 0) (t := 5) (o := 0) (by kernel_rfl) hy
    obtain ⟨n1, z1, k1, d1⟩ := struct_open (i := 1) (t := 5) (o := 1) (by kernel_rfl) hy
    rw [cU8] at k0 k1
    have q0 := d0 _ e2
    have q1 := d1 _ e2
    simp only [List.getElem?_cons_zero, List.getElem?_cons_succ, Option.some.injEq] at q0 q1
    have r0 := piece2 (lit_int Tryz.underlying5 k0 q0.symm)
    have r1 := piece2 (lit_int Tryz.underlying5 k1 q1.symm)
    exact ⟨r0, r1⟩
  have hcell : ∀ i : Nat, W.cell? ⟨0, i, none⟩ = cs.toList[i]? := fun i => by rw [World.var?_cell gSg hvar i]; simp
  have t0 := two 0 97 122 (by omega) (fun ds h => by cases h; rfl)
  have t1 := two 1 48 57 (by omega) (fun ds h => by cases h; rfl)
  have t2 := two 2 46 46 (by omega) (fun ds h => by cases h; rfl)
  have t3 := two 3 45 45 (by omega) (fun ds h => by cases h; rfl)
  have t4 := two 4 95 95 (by omega) (fun ds h => by cases h; rfl)
  intro i hi
  rw [hcell]
  match i, hi with
  | 0, _ => exact t0.1
  | 1, _ => exact t0.2
  | 2, _ => exact t1.1
  | 3, _ => exact t1.2
  | 4, _ => exact t2.1
  | 5, _ => exact t2.2
  | 6, _ => exact t3.1
  | 7, _ => exact t3.2
  | 8, _ => exact t4.1
  | 9, _ => exact t4.2
end Go.Proofs.YtmdiajmjmkmnoaaGreatDoor
