/-
  Opening what comes in: slices of bytes, slices of them. Plain theorems on readings.
-/
import Derived.Test.YtkmkblhmjeeaeaaGreatDoorM4
import Derived.ProofKit
import Derived.Deep.Slices
import Derived.Test.YtkmkblhmjeeaeaaGreatDoorM20
import Derived.Lib.SmallJoins
import Derived.Test.YtkmkblhmjeeaeaaGreatDoorM26
import Derived.Test.YtkmkblhmjeeaeaaGreatDoorM2
section
set_option maxRecDepth 100000
set_option linter.unusedSimpArgs false
set_option linter.unusedVariables false
namespace Go.Proofs.YtkmkblhmjeeaeaaGreatDoor
open Go.ChangeShapes Go.WideShapes Go.ChangeAt Go.RowKit

theorem spot_none {w : World} {a : Addr} {u : Value} (h : w.cell? a = some u) : a.spot = none := by
  unfold World.cell? at h
  split at h
  · split at h
    · cases h
    · rename_i hs; simpa using hs
  · cases h
theorem add_zero (a : Addr) : a.add 0 = a := by simp [Addr.add]
theorem byte_of {n : Int} (h : (Lit.int .u8 n).wf = true) : n = nb (BitVec.ofInt 8 n) := by
  rw [← wrap_u8]
  simp [Lit.wf, IntKind.min, IntKind.max, IntKind.signed, IntKind.bits] at h
  simp [IntKind.wrap, IntKind.signed, IntKind.bits]
  omega

section
variable {H : Type} {enc : TypeId × Value → H} {w : World} {base : Nat} {spare : Nat → Bool} {held : Bool}
theorem came_text {fuel : Nat} {v : Value} {x : DataW H × List MemPlace} (h : DataW.trod enc Tryz.prog w base spare held fuel 40 [v] = some x) : ∃ A n c bs, v = .slice A n c ∧ TxtN w w.heap.size A n c bs := by
  rcases open_ints Tryz.underlying40 Tryz.underlying5 (by kernel_rfl) h with ⟨hcs, _⟩ | ⟨a, len, cap, zs, hcs, _, hl, hm, hz, _, hcell, hwz⟩
  · simp only [List.cons.injEq, and_true] at hcs
    subst hcs
    exact ⟨none, 0, 0, [], rfl, ⟨⟨rfl, Nat.le_refl _, Nat.zero_le _, fun h => absurd h (by omega)⟩, fun _ => ⟨rfl, rfl⟩⟩⟩
  · simp only [List.cons.injEq, and_true] at hcs
    subst hcs
    have hlz : len ≤ zs.length := by rw [hz]; split <;> omega
    refine ⟨some a, len, cap, (zs.take len).map (BitVec.ofInt 8), rfl, ⟨⟨by rw [List.length_map, List.length_take]; omega, hl, hm, fun hn => ?_⟩, fun h => by cases h⟩⟩
    have h0 := hcell 0 (by omega)
    rw [add_zero] at h0
    have hs := spot_none h0
    have hlt := World.block_lt_of_cell? w _ h0
    obtain ⟨b, o, s⟩ := a
    simp only at hs
    subst hs
    refine ⟨b, o, rfl, by have h2 : b < w.heap.size := hlt; omega, fun j hj => ?_⟩
    have hjz : j < zs.length := by omega
    have hc := hcell j hjz
    rw [Addr.add_mid] at hc
    rw [hc]
    have hg : (zs.getD j 0) = zs[j] := by simp [List.getD_eq_getElem?_getD, List.getElem?_eq_getElem hjz]
    have hg2 : ((zs.take len).map (BitVec.ofInt 8)).getD j 0 = BitVec.ofInt 8 zs[j] := by
      rw [List.getD_eq_getElem?_getD, List.getElem?_map, List.getElem?_take, if_pos hj, List.getElem?_eq_getElem hjz]
      rfl
    rw [hg, hg2]
    exact congrArg (fun z => some (Value.int .u8 z)) (byte_of (hwz _ (List.getElem_mem hjz)))
theorem came_texts {fuel : Nat} {v : Value} {x : DataW H × List MemPlace} (h : DataW.trod enc Tryz.prog w base spare held fuel 171 [v] = some x) : ∃ A n c xs, v = .slice A n c ∧ n ≤ 9223372036854775807 ∧ TxtsN w w.heap.size A n xs := by
  rcases Go.Deep.open_slice1 Tryz.underlying171 (by kernel_rfl) h with ⟨hcs, _⟩ | ⟨a, len, cap, m, n, V, D, Pl, hcs, _, hl, hm, hmm, _, hx⟩
  · simp only [List.cons.injEq, and_true] at hcs
    subst hcs
    exact ⟨none, 0, 0, [], rfl, Nat.zero_le _, ⟨rfl, fun h => absurd h (by omega)⟩⟩
  · simp only [List.cons.injEq, and_true] at hcs
    subst hcs
    have hlm : len ≤ m := by rw [hmm]; split <;> omega
    have each : ∀ i, i < len → ∃ r : Option Addr × Nat × Nat × List B8, w.cell? (a.add i) = some (.slice r.1 r.2.1 r.2.2.1) ∧ TxtN w w.heap.size r.1 r.2.1 r.2.2.1 r.2.2.2 := by
      intro i hi
      obtain ⟨h1, h2⟩ := hx i (by omega)
      obtain ⟨A2, n2, c2, x2, q2, r2⟩ := came_text h2
      exact ⟨(A2, n2, c2, x2), by rw [h1, q2], r2⟩
    obtain ⟨f, hf⟩ := Go.Deep.choose_lt each
    refine ⟨some a, len, cap, (List.range len).map (fun i => (f i).2.2.2), rfl, by unfold maxLen at hm; omega, ⟨by simp, fun hn => ?_⟩⟩
    have d0 := (hf 0 hn).1
    rw [add_zero] at d0
    have hs := spot_none d0
    have hlt := World.block_lt_of_cell? w _ d0
    obtain ⟨b, o, s⟩ := a
    simp only at hs
    subst hs
    refine ⟨b, o, rfl, by have h2 : b < w.heap.size := hlt; omega, fun i y hy => ?_⟩
    have hi : i < len := by
      have := (List.getElem?_eq_some_iff.1 hy).1
      simpa using this
    rw [List.getElem?_map, List.getElem?_range hi] at hy
    simp only [Option.map_some, Option.some.injEq] at hy
    subst hy
    obtain ⟨c0, rb⟩ := hf i hi
    rw [Addr.add_mid] at c0
    exact ⟨_, _, _, c0, rb⟩
end

end Go.Proofs.YtkmkblhmjeeaeaaGreatDoor
end

/-
  Opening what comes in: a node of the document's. Plain theorems on readings.
-/

section
set_option linter.unusedSimpArgs false
set_option linter.unusedVariables false
set_option maxRecDepth 100000
namespace Go.Proofs.YtkmkblhmjeeaeaaGreatDoor
open Go.ChangeShapes Go.WideShapes Go.ChangeAt Go.RowKit

theorem array5 {α : Type} {cs : Array α} (h : cs.size = 5) : ∃ c0 c1 c2 c3 c4, cs = #[c0, c1, c2, c3, c4] := by
  obtain ⟨l⟩ := cs
  match l, h with
  | [c0, c1, c2, c3, c4], _ => exact ⟨c0, c1, c2, c3, c4, rfl⟩
noncomputable def rn7fields : Array Field := match Tryz.prog.underlying 53 with | some (.struct f) => f | _ => #[]
theorem rn7fields_eq : Tryz.prog.underlying 53 = some (.struct rn7fields) := by kernel_rfl
theorem rn7f0 : (rn7fields[0]?).map (fun f => (f.type, f.offset)) = some (51, 0) := by kernel_rfl
theorem rn7f1 : (rn7fields[1]?).map (fun f => (f.type, f.offset)) = some (40, 4) := by kernel_rfl
theorem rn7cells : Tryz.prog.cellsOf 53 = 5 := by kernel_rfl
noncomputable def rs6fields : Array Field := match Tryz.prog.underlying 51 with | some (.struct f) => f | _ => #[]
theorem rs6fields_eq : Tryz.prog.underlying 51 = some (.struct rs6fields) := by kernel_rfl
theorem rs6f0 : (rs6fields[0]?).map (fun f => (f.type, f.offset)) = some (3, 0) := by kernel_rfl
theorem rs6f1 : (rs6fields[1]?).map (fun f => (f.type, f.offset)) = some (3, 1) := by kernel_rfl
theorem rs6f2 : (rs6fields[2]?).map (fun f => (f.type, f.offset)) = some (3, 2) := by kernel_rfl
theorem rs6f3 : (rs6fields[3]?).map (fun f => (f.type, f.offset)) = some (3, 3) := by kernel_rfl
theorem rn7_get {fs : Array Field} {i : Nat} {t o : Nat} (h : (fs[i]?).map (fun f => (f.type, f.offset)) = some (t, o)) : ∃ f, fs[i]? = some f ∧ f.type = t ∧ f.offset = o := by
  cases hf : fs[i]? with
  | none => rw [hf] at h; cases h
  | some f => rw [hf] at h; simp only [Option.map_some, Option.some.injEq, Prod.mk.injEq] at h; exact ⟨f, rfl, h.1, h.2⟩
section
variable {H : Type} {enc : TypeId × Value → H} {w : World} {base : Nat} {spare : Nat → Bool} {held : Bool}
theorem came_field {fs : Array Field} {T : TypeId} {fuel : Nat} {cs : List Value} {x : DataW H × List MemPlace} (hs : Tryz.prog.underlying T = some (.struct fs)) (h : DataW.trod enc Tryz.prog w base spare held fuel T cs = some x) {i : Nat} {t o : Nat} (hi : (fs[i]?).map (fun f => (f.type, f.offset)) = some (t, o)) :
    ∃ n y, DataW.trod enc Tryz.prog w base spare held n t ((cs.drop o).take (Tryz.prog.cellsOf t)) = some y := by
  obtain ⟨xs, n, _, _, _, hxl, hf⟩ := DataW.trod_struct hs h
  obtain ⟨f, g, t0, o0⟩ := rn7_get hi
  have k := hf i f g
  rw [t0, o0] at k
  have h3 := (Array.getElem?_eq_some_iff.1 g).1
  rw [List.getElem?_eq_getElem (show i < xs.length by omega)] at k
  exact ⟨n, _, k⟩
theorem came_int1 {fuel : Nat} {v : Value} {x : DataW H × List MemPlace} (h : DataW.trod enc Tryz.prog w base spare held fuel 3 [v] = some x) : ∃ k, v = .int .i64 k := by
  obtain ⟨k, e, _, _⟩ := DataW.trod_int Tryz.underlying3 h
  simp only [List.cons.injEq, and_true] at e
  exact ⟨k, e⟩
theorem cells_int1 : Tryz.prog.cellsOf 3 = 1 := by kernel_rfl
theorem cells_text1 : Tryz.prog.cellsOf 40 = 1 := by kernel_rfl
theorem cells_stat4 : Tryz.prog.cellsOf 51 = 4 := by kernel_rfl
theorem came_node {r : Reach} {b0 : Nat} {v : Value} {d : DataW H} {p : List MemPlace} (hv : Value.okWide Tryz.prog w r b0 53 v) (h : DataW.Trod enc Tryz.prog w base spare held 53 v d p) :
    ∃ k m o g A n c b, v = nodeV k m o g A n c ∧ TxtN w w.heap.size A n c b := by
  obtain ⟨cs, rfl, hsz⟩ := okWide_struct rn7fields_eq hv
  obtain ⟨c0, c1, c2, c3, c4, rfl⟩ := array5 (hsz.trans rn7cells)
  obtain ⟨fuel, hf⟩ := h
  have hf : DataW.trod enc Tryz.prog w base spare held fuel 53 [c0, c1, c2, c3, c4] = some (d, p) := by simpa [Value.cells] using hf
  obtain ⟨n0, y0, k0⟩ := came_field rn7fields_eq hf rn7f0
  obtain ⟨n1, y1, k1⟩ := came_field rn7fields_eq hf rn7f1
  rw [cells_stat4] at k0
  rw [cells_text1] at k1
  simp only [List.drop_zero, List.drop_succ_cons, List.take_succ_cons, List.take_zero] at k0 k1
  obtain ⟨_, _, j0⟩ := came_field rs6fields_eq k0 rs6f0
  obtain ⟨_, _, j1⟩ := came_field rs6fields_eq k0 rs6f1
  obtain ⟨_, _, j2⟩ := came_field rs6fields_eq k0 rs6f2
  obtain ⟨_, _, j3⟩ := came_field rs6fields_eq k0 rs6f3
  rw [cells_int1] at j0 j1 j2 j3
  simp only [List.drop_zero, List.drop_succ_cons, List.take_succ_cons, List.take_zero] at j0 j1 j2 j3
  obtain ⟨k, rfl⟩ := came_int1 j0
  obtain ⟨m, rfl⟩ := came_int1 j1
  obtain ⟨o, rfl⟩ := came_int1 j2
  obtain ⟨g, rfl⟩ := came_int1 j3
  obtain ⟨A, n, c, b, rfl, ht⟩ := came_text k1
  exact ⟨k, m, o, g, A, n, c, b, rfl, ht⟩
end
end Go.Proofs.YtkmkblhmjeeaeaaGreatDoor
end

/-
  Opening what comes in: lists of lists of changes of the document's. Plain theorems on readings.
-/

section
set_option linter.unusedSimpArgs false
set_option linter.unusedVariables false
set_option maxRecDepth 100000
namespace Go.Proofs.YtkmkblhmjeeaeaaGreatDoor
open Go.ChangeShapes Go.WideShapes Go.ChangeAt Go.RowKit

noncomputable def rc7fields : Array Field := match Tryz.prog.underlying 73 with | some (.struct f) => f | _ => #[]
theorem rc7fields_eq : Tryz.prog.underlying 73 = some (.struct rc7fields) := by kernel_rfl
theorem rc7f0 : (rc7fields[0]?).map (fun f => (f.type, f.offset)) = some (3, 0) := by kernel_rfl
theorem rc7f1 : (rc7fields[1]?).map (fun f => (f.type, f.offset)) = some (53, 1) := by kernel_rfl
theorem rc7f2 : (rc7fields[2]?).map (fun f => (f.type, f.offset)) = some (4, 6) := by kernel_rfl
theorem rc7cells : Tryz.prog.cellsOf 73 = 7 := by kernel_rfl
theorem cells_bool1 : Tryz.prog.cellsOf 4 = 1 := by kernel_rfl
theorem cells_list1 : Tryz.prog.cellsOf 30 = 1 := by kernel_rfl
theorem i64_rng7 {x : Int} (h : (Lit.int .i64 x).wf = true) : -9223372036854775808 ≤ x ∧ x ≤ 9223372036854775807 := by
  have e1 : IntKind.i64.min = -9223372036854775808 := by decide
  have e2 : IntKind.i64.max = 9223372036854775807 := by decide
  simp [Lit.wf] at h
  omega
/-- A change that came in: seven values and what they tell. -/
structure CameC (w : World) (cs : List Value) (x : Cv) (c : Ch) : Prop where
  cells : cs = [.int .i64 x.no, .int .i64 x.k, .int .i64 x.m, .int .i64 x.o, .int .i64 x.g, .slice x.A x.n x.c, .bool x.drop]
  arg : c.no = x.no ∧ c.k = x.k ∧ c.m = x.m ∧ c.o = x.o ∧ c.g = x.g ∧ c.drop = x.drop ∧ RdB w x.A x.n c.data ∧ x.n ≤ x.c ∧ x.c ≤ 9223372036854775807 ∧ (x.A = none → x.n = 0 ∧ x.c = 0)
  rng : -9223372036854775808 ≤ c.no ∧ c.no ≤ 9223372036854775807
section
variable {H : Type} {enc : TypeId × Value → H} {w : World} {base : Nat} {spare : Nat → Bool} {held : Bool}
theorem came_nodec {fuel : Nat} {c0 c1 c2 c3 c4 : Value} {x : DataW H × List MemPlace} (hf : DataW.trod enc Tryz.prog w base spare held fuel 53 [c0, c1, c2, c3, c4] = some x) :
    ∃ k m o g A n c b, c0 = .int .i64 k ∧ c1 = .int .i64 m ∧ c2 = .int .i64 o ∧ c3 = .int .i64 g ∧ c4 = .slice A n c ∧ TxtN w w.heap.size A n c b := by
  obtain ⟨n0, y0, k0⟩ := came_field rn7fields_eq hf rn7f0
  obtain ⟨n1, y1, k1⟩ := came_field rn7fields_eq hf rn7f1
  rw [cells_stat4] at k0
  rw [cells_text1] at k1
  simp only [List.drop_zero, List.drop_succ_cons, List.take_succ_cons, List.take_zero] at k0 k1
  obtain ⟨_, _, j0⟩ := came_field rs6fields_eq k0 rs6f0
  obtain ⟨_, _, j1⟩ := came_field rs6fields_eq k0 rs6f1
  obtain ⟨_, _, j2⟩ := came_field rs6fields_eq k0 rs6f2
  obtain ⟨_, _, j3⟩ := came_field rs6fields_eq k0 rs6f3
  rw [cells_int1] at j0 j1 j2 j3
  simp only [List.drop_zero, List.drop_succ_cons, List.take_succ_cons, List.take_zero] at j0 j1 j2 j3
  obtain ⟨k, rfl⟩ := came_int1 j0
  obtain ⟨m, rfl⟩ := came_int1 j1
  obtain ⟨o, rfl⟩ := came_int1 j2
  obtain ⟨g, rfl⟩ := came_int1 j3
  obtain ⟨A, n, c, b, rfl, ht⟩ := came_text k1
  exact ⟨k, m, o, g, A, n, c, b, rfl, rfl, rfl, rfl, rfl, ht⟩
theorem came_change {fuel : Nat} {cs : List Value} (hl : cs.length = 7) {x : DataW H × List MemPlace} (h : DataW.trod enc Tryz.prog w base spare held fuel 73 cs = some x) : ∃ q : Cv × Ch, CameC w cs q.1 q.2 := by
  match cs, hl with
  | [v0, v1, v2, v3, v4, v5, v6], _ =>
    obtain ⟨n0, y0, k0⟩ := came_field rc7fields_eq h rc7f0
    obtain ⟨n1, y1, k1⟩ := came_field rc7fields_eq h rc7f1
    obtain ⟨n2, y2, k2⟩ := came_field rc7fields_eq h rc7f2
    rw [cells_int1] at k0
    rw [rn7cells] at k1
    rw [cells_bool1] at k2
    simp only [List.drop_zero, List.drop_succ_cons, List.take_succ_cons, List.take_zero] at k0 k1 k2
    obtain ⟨z, q0, _, w0⟩ := DataW.trod_int Tryz.underlying3 k0
    simp only [List.cons.injEq, and_true] at q0
    obtain ⟨d, q2, _⟩ := DataW.trod_bool Tryz.underlying4 k2
    simp only [List.cons.injEq, and_true] at q2
    obtain ⟨k, m, o, g, A, n, c, b, e1, e2, e3, e4, e5, ht⟩ := came_nodec k1
    subst q0 q2 e1 e2 e3 e4 e5
    have hcm := ht.txt.capm
    unfold maxLen at hcm
    exact ⟨(⟨z, k, m, o, g, A, n, c, d⟩, { no := z, k := k, m := m, o := o, g := g, data := b, drop := d }), rfl, ⟨rfl, rfl, rfl, rfl, rfl, rfl, RdB.of_txt ht, ht.txt.cap, by show c ≤ _; omega, ht.nil⟩, i64_rng7 w0⟩
theorem came_changes {fuel : Nat} {v : Value} {x : DataW H × List MemPlace} (h : DataW.trod enc Tryz.prog w base spare held fuel 30 [v] = some x) :
    ∃ A n c l lc, v = .slice A n c ∧ CvIn w A n l ∧ ArgIn w l lc ∧ (∀ y ∈ lc, -9223372036854775808 ≤ y.no ∧ y.no ≤ 9223372036854775807) := by
  rcases Go.Deep.open_slice Tryz.underlying30 h with ⟨hcs, _⟩ | ⟨a, len, cap, m, n, D, Pl, hcs, _, hl, hm, hmm, _, hx⟩
  · simp only [List.cons.injEq, and_true] at hcs
    subst hcs
    exact ⟨none, 0, 0, [], [], rfl, ⟨rfl, by omega, fun h => absurd h (by omega)⟩, ⟨rfl, fun i x c hx => by simp at hx⟩, fun y hy => by cases hy⟩
  · simp only [List.cons.injEq, and_true] at hcs
    subst hcs
    have hlm : len ≤ m := by rw [hmm]; split <;> omega
    have each : ∀ i, i < len → ∃ q : Cv × Ch, ∃ cs, (∀ j, j < 7 → w.cell? ((a.add (i * 7)).add j) = cs[j]?) ∧ CameC w cs q.1 q.2 := by
      intro i hi
      obtain ⟨cs', h1, h2⟩ := hx i (by omega)
      rw [rc7cells] at h1
      obtain ⟨_, hlen, hcell⟩ := World.cells?_some h1
      obtain ⟨q, hq⟩ := came_change hlen h2
      exact ⟨q, cs', fun j hj => hcell j (by omega), hq⟩
    have : Inhabited (Cv × Ch) := ⟨(⟨0, 0, 0, 0, 0, none, 0, 0, false⟩, { no := 0, k := 0, m := 0, o := 0, g := 0, data := [], drop := false })⟩
    obtain ⟨f, hf⟩ := Go.Deep.choose_lt each
    have hget : ∀ (i : Nat) y, ((List.range len).map fun i => (f i).1)[i]? = some y → i < len ∧ y = (f i).1 := by
      intro i y hy
      have hi : i < len := by
        have := (List.getElem?_eq_some_iff.1 hy).1
        simpa using this
      rw [List.getElem?_map, List.getElem?_range hi] at hy
      exact ⟨hi, (by simpa using hy.symm)⟩
    have hget2 : ∀ (i : Nat) y, ((List.range len).map fun i => (f i).2)[i]? = some y → i < len ∧ y = (f i).2 := by
      intro i y hy
      have hi : i < len := by
        have := (List.getElem?_eq_some_iff.1 hy).1
        simpa using this
      rw [List.getElem?_map, List.getElem?_range hi] at hy
      exact ⟨hi, (by simpa using hy.symm)⟩
    refine ⟨some a, len, cap, (List.range len).map (fun i => (f i).1), (List.range len).map (fun i => (f i).2), rfl, ⟨by simp, by unfold maxLen at hm; omega, fun hn => ?_⟩, ⟨by simp, fun i x c hx hc => ?_⟩, fun y hy => ?_⟩
    · obtain ⟨cs, d0, dq⟩ := hf 0 hn
      have e0 := d0 0 (by omega)
      rw [Nat.zero_mul, add_zero, add_zero, dq.cells] at e0
      have hsp := spot_none (u := _) (e0.trans rfl)
      have hlt := World.block_lt_of_cell? w _ (e0.trans rfl)
      obtain ⟨b, o, sp⟩ := a
      simp only at hsp
      subst hsp
      refine ⟨b, o, rfl, hlt, fun i t ht => ?_⟩
      obtain ⟨hi, rfl⟩ := hget i t ht
      obtain ⟨cs, c0, cq⟩ := hf i hi
      have g0 := c0 0 (by omega)
      have g1 := c0 1 (by omega)
      have g2 := c0 2 (by omega)
      have g3 := c0 3 (by omega)
      have g4 := c0 4 (by omega)
      have g5 := c0 5 (by omega)
      have g6 := c0 6 (by omega)
      rw [cq.cells] at g0 g1 g2 g3 g4 g5 g6
      rw [add_zero] at g0
      simp only [add_off] at g0 g1 g2 g3 g4 g5 g6
      exact ⟨g0, g1, g2, g3, g4, g5, g6⟩
    · obtain ⟨hi, rfl⟩ := hget i x hx
      obtain ⟨_, rfl⟩ := hget2 i c hc
      obtain ⟨cs, c0, cq⟩ := hf i hi
      exact cq.arg
    · obtain ⟨i, hi⟩ := List.getElem?_of_mem hy
      obtain ⟨hi2, rfl⟩ := hget2 i y hi
      obtain ⟨cs, c0, cq⟩ := hf i hi2
      exact cq.rng
theorem came_lists {fuel : Nat} {v : Value} {x : DataW H × List MemPlace} (h : DataW.trod enc Tryz.prog w base spare held fuel 22 [v] = some x) : ∃ A n c, v = .slice A n c ∧ ArgsIn w A n := by
  rcases Go.Deep.open_slice1 Tryz.underlying22 cells_list1 h with ⟨hcs, _⟩ | ⟨a, len, cap, m, n, V, D, Pl, hcs, _, hl, hm, hmm, _, hx⟩
  · simp only [List.cons.injEq, and_true] at hcs
    subst hcs
    exact ⟨none, 0, 0, rfl, by omega, fun h => absurd h (by omega)⟩
  · simp only [List.cons.injEq, and_true] at hcs
    subst hcs
    have hlm : len ≤ m := by rw [hmm]; split <;> omega
    refine ⟨some a, len, cap, rfl, by unfold maxLen at hm; omega, fun hn => ?_⟩
    have e0 := (hx 0 (by omega)).1
    rw [add_zero] at e0
    have hsp := spot_none e0
    obtain ⟨b, o, sp⟩ := a
    simp only at hsp
    subst hsp
    refine ⟨b, o, rfl, fun k hk => ?_⟩
    obtain ⟨c1, c2⟩ := hx k (by omega)
    obtain ⟨A, n2, c, l, lc, e, h1, h2, h3⟩ := came_changes c2
    rw [e] at c1
    simp only [add_off] at c1
    exact ⟨A, n2, c, l, lc, c1, h1, h2, h3⟩
end
end Go.Proofs.YtkmkblhmjeeaeaaGreatDoor
end

/-
  InodePlays: for every input the law returns true, and the arguments read as they read: its card, tied to the program's text. Condition: the listed variable reads as its initialiser lays it.
-/

section
set_option linter.unusedSimpArgs false
set_option linter.unusedVariables false
set_option maxRecDepth 100000
namespace Go.Proofs.YtkmkblhmjeeaeaaGreatDoor.inodePlays
open Go.ChangeShapes Go.WideShapes Go.ChangeAt Go.RowKit

set_option maxRecDepth 100000 in
theorem contract (H : Type) (enc : TypeId × Value → H) (W : World) (base : Nat) (args : Array Value) (ds gs : List (DataW H)) (before : List MemPlace)
    (hval : ∀ (j : Nat) t v, Tryz.f3.params[j]? = some t → args[j]? = some v → Value.okWide Tryz.prog W .any base t v)
    (hW : DataW.Whole enc Tryz.prog Tryz.f3.params.toList Rows.inodePlaysSpec.vars false W args.toList ds gs before) (hL : laidMetH Tryz.prog Rows.inodePlaysRow.laid W) :
    Calls Tryz.prog 3 args W fun e W' => ∃ v, e = .returned v ∧ Rows.inodePlaysSpec.post enc Tryz.prog Tryz.f3 false true false false W args v W' := by
  have hW' := hW
  obtain ⟨p, q, hA0, hV, rfl, hfz, hnd⟩ := hW
  have hA : DataW.TrodAll enc Tryz.prog W 0 (fun _ => true) true Tryz.f3.params.toList args.toList ds p := hA0
  rw [Tryz.params3] at hA hval
  obtain ⟨v0, vs0, d0, ds0, p0, q0, hargs, rfl, rfl, h0, r0⟩ := trodAll_cons hA
  obtain ⟨rfl, rfl, rfl⟩ := trodAll_nil r0
  obtain rfl : args = #[v0] := by cases args; simp_all
  obtain ⟨rfl, rfl⟩ := trodVars_none hV
  have k0 := h0
  have lt0 : ∀ x ∈ p0, x.block < W.heap.size := by obtain ⟨m, hm⟩ := k0; exact DataW.trod_lt m _ _ _ hm
  clear hA0
  obtain ⟨a0, len0, cap0, rfl⟩ := okWide_slice Tryz.underlying22 (hval 0 22 v0 rfl rfl)
  obtain ⟨A0, n0, c0, e0, ht0⟩ : ∃ A n c, Value.slice a0 len0 cap0 = .slice A n c ∧ ArgsIn W A n := by
    obtain ⟨fuel, hf⟩ := h0
    exact came_lists (by simpa [Value.cells] using hf)
  cases e0
  refine (iplays_walk Ks W (roots_of hL) _ _ _ ht0).mono fun e W' ⟨he, bel⟩ => ?_
  subst he
  exact ⟨_, rfl, _, _, _, [], _, [], hW', trodAll_mk1 (shut_bool Tryz.underlying4 _), (trodAll_cons_mk (Below.trod laidOut (by kernel_rfl) (of_decide_eq_true (by kernel_rfl)) k0 bel lt0) trodAll_mk0), rfl, bel.frame _, fun h => by cases h⟩

theorem laid_met (os : Os) : laidMet Tryz.prog Rows.inodePlaysRow.laid ((laidWorld os).forCall (fun _ _ => 0) ⟨#[], #[.slice none 0 0], []⟩).memory :=
  laidMet_of_run' 8 (by kernel_rfl) (by kernel_rfl)
theorem reads (os : Os) {H : Type} (enc : TypeId × Value → H) : ∃ places, DataW.whole enc Tryz.prog ((laidWorld os).forCall (fun _ _ => 0) ⟨#[], #[.slice none 0 0], []⟩).memory Tryz.f3.params.toList Rows.inodePlaysSpec.vars false (#[.slice none 0 0] : Array Value).toList 8 = some ([.nil], [], places) :=
  ⟨[], by kernel_rfl⟩

set_option maxRecDepth 100000 in
theorem lifted (os : Os) (started : os.Started) (H : Type) (enc : TypeId × Value → H) (F : Stop.Interp) :
    ReturnsInHanded {} Tryz.checked os 3 .any ((OpenSpec.ofChange Rows.inodePlaysSpec).preRow enc Tryz.prog Tryz.f3 Rows.inodePlaysRow.domain false Rows.inodePlaysRow.laid) (((OpenSpec.ofChange Rows.inodePlaysSpec).at F).post enc Tryz.prog Tryz.f3 false true false false) := by
  obtain ⟨places, hx⟩ := reads os enc
  refine returnsInHanded_of_row (C := Tryz.checked) (s := OpenSpec.ofChange Rows.inodePlaysSpec) own started (by kernel_rfl) Tryz.func3
    (witness_row_at (enc := enc) (C := Tryz.checked) false (laidWorld os) #[.slice none 0 0] rfl (by kernel_rfl) (by kernel_rfl) (by kernel_rfl)
      (OpenSpec.preRow_of_cond 8 hx (by kernel_rfl) (fun k hk => by cases hk) (by kernel_rfl) (laid_met os))) ?_
  intro W base args ds gs before hval hW _ _ _ hL _ _
  exact contract H enc W base args ds gs before hval hW hL

theorem said : Rows.InodePlaysSaid :=
  OpenClaim.holds_of_cond 3 Tryz.f3 rfl rfl rfl rfl rfl rfl rfl ⟨rfl, rfl, rfl, rfl, rfl⟩ rfl rfl rfl rfl rfl (by kernel_rfl) Tryz.func3 (by kernel_rfl)
    (of_decide_eq_true (by kernel_rfl)) (by unfold Func.isWrapper; first | (rw [if_pos (by decide +kernel)]; kernel_rfl) | (rw [if_neg (by decide +kernel)]; exact ⟨rfl, rfl⟩))
    (fun os started H enc _ F => by rw [OpenClaim.pre_eq_preRow]; exact lifted os started H enc F)

theorem plain (f : FuncId) (fn : Func) (hf : Tryz.pinned.checked.prog.funcNamed "creel/creellaw07.InodePlays" = some f) (hfn : Tryz.pinned.checked.prog.funcs[f]? = some fn) :
    true = Tryz.pinned.checked.prog.looks [] ∧ ∀ (j : Nat) t, fn.params[j]? = some t → Tryz.pinned.checked.prog.wantsStandIn t = false := by
  obtain rfl : f = 3 := Option.some.inj ((show Tryz.prog.funcNamed "creel/creellaw07.InodePlays" = some 3 by kernel_rfl).symm.trans hf) |>.symm
  obtain rfl : fn = Tryz.f3 := (Option.some.inj (Tryz.func3.symm.trans hfn)).symm
  refine ⟨by kernel_rfl, fun j t ht => ?_⟩
  rw [Tryz.params3] at ht
  have hm : t ∈ [22] := by simpa using Array.mem_of_getElem? ht
  have hall : ([22].all fun u => !Tryz.prog.wantsStandIn u) = true := by kernel_rfl
  exact (show Tryz.prog.wantsStandIn t = false by simpa using List.all_eq_true.1 hall t hm)

end Go.Proofs.YtkmkblhmjeeaeaaGreatDoor.inodePlays
namespace Go.Proofs.YtkmkblhmjeeaeaaGreatDoor
theorem InodePlays_holds : Rows.InodePlaysCardSaid :=
  Claim7.holds_tied_plain_at .later [] _ _ _ _ inodePlays.said (fun _ h => by cases h) (by kernel_rfl) (fun _ h => by cases h) inodePlays_row_tie rfl ⟨rfl, rfl⟩ (by kernel_rfl) rfl inodePlays.plain (by kernel_rfl)
end Go.Proofs.YtkmkblhmjeeaeaaGreatDoor
end
