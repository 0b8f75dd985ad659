/-
  Opening what comes in: slices of bytes, of numbers, of calls, as the words that the walks take. Plain theorems on readings.
-/
import Derived.Test.YthphaidaknkedaaBSit
import Derived.ProofKit
import Derived.Deep.Slices
namespace Go.Proofs.Ythphaidaknkedaa
open Go.ChangeShapes Go.WideShapes Go.ChangeAt Go.RowKit

/-- A slice of integers that came in. -/
def CameInts (k : IntKind) (w : World) (A : Option Addr) (n c : Nat) (xs : List Int) : Prop :=
  xs.length = n ∧ n ≤ c ∧ c ≤ maxLen ∧ (∀ ad, A = some ad → 0 < n → ad.block < w.heap.size) ∧ (∀ x ∈ xs, (Lit.int k x).wf = true) ∧
  (0 < n → ∃ b o, A = some ⟨b, o, none⟩ ∧ ∀ j x, xs[j]? = some x → w.cell? ⟨b, o + j, none⟩ = some (.int k x))

theorem spot_none {w : World} {a : Addr} {u : Value} (h : w.cell? a = some u) : a.spot = none := by
  unfold World.cell? at h
  split at h
  · split at h
    · cases h
    · rename_i hs; simpa using hs
  · cases h
theorem add_zero (a : Addr) : a.add 0 = a := by simp [Addr.add]

section
variable {H : Type} {enc : TypeId × Value → H} {w : World} {base : Nat} {spare : Nat → Bool} {held : Bool}
theorem came_ints {t e : TypeId} {k : IntKind} {fuel : Nat} {v : Value} {x : DataW H × List MemPlace} (ht : Try.prog.underlying t = some (.slice e)) (he : Try.prog.underlying e = some (.int k)) (hc : Try.prog.cellsOf e = 1)
    (h : DataW.trod enc Try.prog w base spare held fuel t [v] = some x) : ∃ A n c xs, v = .slice A n c ∧ CameInts k w A n c xs := by
  rcases open_ints ht he hc h with ⟨hcs, _⟩ | ⟨a, len, cap, zs, hcs, _, hl, hm, hz, _, hcell, hwz⟩
  · simp only [List.cons.injEq, and_true] at hcs
    subst hcs
    exact ⟨none, 0, 0, [], rfl, rfl, Nat.le_refl _, Nat.zero_le _, by simp, by simp, fun h => absurd h (by omega)⟩
  · simp only [List.cons.injEq, and_true] at hcs
    subst hcs
    have hlz : len ≤ zs.length := by rw [hz]; split <;> omega
    refine ⟨some a, len, cap, zs.take len, rfl, by rw [List.length_take]; omega, hl, hm, ?_, fun x hx => hwz x (List.mem_of_mem_take hx), ?_⟩
    · intro ad e hn
      cases e
      have := hcell 0 (by omega)
      rw [add_zero] at this
      exact World.block_lt_of_cell? w _ this
    · intro hn
      have h0 := hcell 0 (by omega)
      rw [add_zero] at h0
      have hs := spot_none h0
      obtain ⟨b, o, s⟩ := a
      simp only at hs
      subst hs
      refine ⟨b, o, rfl, fun j x hx => ?_⟩
      rw [List.getElem?_take] at hx
      split at hx
      · have hj : j < zs.length := (List.getElem?_eq_some_iff.1 hx).1
        have := hcell j hj
        rw [add_off] at this
        rw [this]
        simp [hx]
      · cases hx
end
theorem CameInts.bytes {w : World} {A : Option Addr} {n c : Nat} {xs : List Int} (h : CameInts .u8 w A n c xs) : BytesAt w A xs := by
  intro hx
  obtain ⟨b, o, rfl, hc⟩ := h.2.2.2.2.2 (by have := h.1; omega)
  exact ⟨_, rfl, fun j x hj => by rw [add_off]; exact hc j x hj⟩
theorem CameInts.ints {w : World} {A : Option Addr} {n c : Nat} {xs : List Int} (h : CameInts .i64 w A n c xs) : IntsAt w A xs := by
  intro j x hj
  obtain ⟨b, o, rfl, hc⟩ := h.2.2.2.2.2 (by have := h.1; have := (List.getElem?_eq_some_iff.1 hj).1; omega)
  exact ⟨b, o, rfl, hc j x hj⟩

noncomputable def afields : Array Field := match Try.prog.underlying 34 with | some (.struct f) => f | _ => #[]
theorem afields_eq : Try.prog.underlying 34 = some (.struct afields) := by kernel_rfl
theorem af0 : (afields[0]?).map (fun f => (f.type, f.offset)) = some (3, 0) := by kernel_rfl
theorem af1 : (afields[1]?).map (fun f => (f.type, f.offset)) = some (3, 1) := by kernel_rfl
theorem af2 : (afields[2]?).map (fun f => (f.type, f.offset)) = some (31, 2) := by kernel_rfl
theorem af3 : (afields[3]?).map (fun f => (f.type, f.offset)) = some (32, 3) := by kernel_rfl
theorem acells : Try.prog.cellsOf 34 = 4 := by kernel_rfl
theorem af_get {i : Nat} {t o : Nat} (h : (afields[i]?).map (fun f => (f.type, f.offset)) = some (t, o)) : ∃ f, afields[i]? = some f ∧ f.type = t ∧ f.offset = o := by
  cases hf : afields[i]? with
  | none => rw [hf] at h; cases h
  | some f => rw [hf] at h; simp only [Option.map_some, Option.some.injEq, Prod.mk.injEq] at h; exact ⟨f, rfl, h.1, h.2⟩

/-- One call that came in, as four values and what they lead to. -/
def CameAct (w : World) (v0 v1 v2 v3 : Value) (a : GoAct) : Prop := v0 = .int .i64 a.kind ∧ v1 = .int .i64 a.no ∧ v2 = .slice a.bA a.bn a.bc ∧ v3 = .slice a.kA a.kn a.kc ∧
  (Lit.int .i64 a.kind).wf = true ∧ (Lit.int .i64 a.no).wf = true ∧ CameInts .u8 w a.bA a.bn a.bc a.bs ∧ CameInts .i64 w a.kA a.kn a.kc a.ks

section
variable {H : Type} {enc : TypeId × Value → H} {w : World} {base : Nat} {spare : Nat → Bool} {held : Bool}
theorem came_act {fuel : Nat} {v0 v1 v2 v3 : Value} {x : DataW H × List MemPlace} (h : DataW.trod enc Try.prog w base spare held fuel 34 [v0, v1, v2, v3] = some x) : ∃ a, CameAct w v0 v1 v2 v3 a := by
  obtain ⟨xs, n, _, _, _, hxl, hf⟩ := DataW.trod_struct afields_eq h
  obtain ⟨f0, g0, t0, o0⟩ := af_get af0
  obtain ⟨f1, g1, t1, o1⟩ := af_get af1
  obtain ⟨f2, g2, t2, o2⟩ := af_get af2
  obtain ⟨f3, g3, t3, o3⟩ := af_get af3
  have k0 := hf 0 f0 g0
  have k1 := hf 1 f1 g1
  have k2 := hf 2 f2 g2
  have k3 := hf 3 f3 g3
  rw [t0, o0, show Try.prog.cellsOf 3 = 1 from by kernel_rfl] at k0
  rw [t1, o1, show Try.prog.cellsOf 3 = 1 from by kernel_rfl] at k1
  rw [t2, o2, show Try.prog.cellsOf 31 = 1 from by kernel_rfl] at k2
  rw [t3, o3, show Try.prog.cellsOf 32 = 1 from by kernel_rfl] at k3
  simp only [List.drop_zero, List.drop_succ_cons, List.take_succ_cons, List.take_zero] at k0 k1 k2 k3
  have full : ∀ i, i < 4 → ∃ y, xs[i]? = some y := by
    intro i hi
    refine ⟨_, List.getElem?_eq_getElem ?_⟩
    have h3 := (Array.getElem?_eq_some_iff.1 g3).1
    omega
  obtain ⟨y0, e0⟩ := full 0 (by omega)
  obtain ⟨y1, e1⟩ := full 1 (by omega)
  obtain ⟨y2, e2⟩ := full 2 (by omega)
  obtain ⟨y3, e3⟩ := full 3 (by omega)
  rw [e0] at k0
  rw [e1] at k1
  rw [e2] at k2
  rw [e3] at k3
  obtain ⟨z0, q0, _, w0⟩ := DataW.trod_int Try.underlying3 k0
  obtain ⟨z1, q1, _, w1⟩ := DataW.trod_int Try.underlying3 k1
  simp only [List.cons.injEq, and_true] at q0 q1
  obtain ⟨A2, n2, c2, x2, q2, r2⟩ := came_ints (k := .u8) (e := 5) (by kernel_rfl) (by kernel_rfl) (by kernel_rfl) k2
  obtain ⟨A3, n3, c3, x3, q3, r3⟩ := came_ints (k := .i64) (e := 3) (by kernel_rfl) (by kernel_rfl) (by kernel_rfl) k3
  exact ⟨⟨z0, z1, A2, n2, c2, x2, A3, n3, c3, x3⟩, q0, q1, q2, q3, w0, w1, r2, r3⟩
end

theorem i64_range {x : Int} (h : (Lit.int .i64 x).wf = true) : -9223372036854775808 ≤ x ∧ x ≤ 9223372036854775807 := by
  have e1 : IntKind.i64.min = -9223372036854775808 := by decide
  have e2 : IntKind.i64.max = 9223372036854775807 := by decide
  simp [Lit.wf] at h
  omega

section
variable {H : Type} {enc : TypeId × Value → H} {w : World} {base : Nat} {spare : Nat → Bool} {held : Bool}
theorem came_acts {fuel : Nat} {v : Value} {x : DataW H × List MemPlace} (h : DataW.trod enc Try.prog w base spare held fuel 22 [v] = some x) :
    ∃ A n c, ∃ l : List GoAct, v = .slice A n c ∧ l.length = n ∧ n ≤ 9223372036854775807 ∧ ActsAt w.heap.size w A l := by
  rcases Go.Deep.open_slice Try.underlying22 h with ⟨hcs, _⟩ | ⟨a, len, cap, m, n, D, Pl, hcs, _, hl, hm, hmm, _, hx⟩
  · simp only [List.cons.injEq, and_true] at hcs
    subst hcs
    exact ⟨none, 0, 0, [], rfl, rfl, Nat.zero_le _, fun i a ha => by simp at ha⟩
  · simp only [List.cons.injEq, and_true] at hcs
    subst hcs
    have hlm : len ≤ m := by rw [hmm]; split <;> omega
    have each : ∀ i, i < len → ∃ q : GoAct, ∃ v0 v1 v2 v3, w.cell? (a.add (i * 4)) = some v0 ∧ w.cell? ((a.add (i * 4)).add 1) = some v1 ∧ w.cell? ((a.add (i * 4)).add 2) = some v2 ∧ w.cell? ((a.add (i * 4)).add 3) = some v3 ∧ CameAct w v0 v1 v2 v3 q := by
      intro i hi
      obtain ⟨cs', h1, h2⟩ := hx i (by omega)
      rw [acells] at h1
      obtain ⟨_, hlen, hcell⟩ := World.cells?_some h1
      match cs', hlen with
      | [v0, v1, v2, v3], _ =>
        obtain ⟨q, hq⟩ := came_act h2
        have e0 := hcell 0 (by omega)
        rw [add_zero] at e0
        exact ⟨q, v0, v1, v2, v3, e0, hcell 1 (by omega), hcell 2 (by omega), hcell 3 (by omega), hq⟩
    have : Inhabited GoAct := ⟨⟨0, 0, none, 0, 0, [], none, 0, 0, []⟩⟩
    obtain ⟨f, hf⟩ := Go.Deep.choose_lt each
    refine ⟨some a, len, cap, (List.range len).map f, rfl, by simp, by unfold maxLen at hm; omega, fun i q hq => ?_⟩
    have hi : i < len := by
      have := (List.getElem?_eq_some_iff.1 hq).1
      simpa using this
    rw [List.getElem?_map, List.getElem?_range hi] at hq
    simp only [Option.map_some, Option.some.injEq] at hq
    subst hq
    obtain ⟨v0, v1, v2, v3, c0, c1, c2, c3, r0, r1, r2, r3, w0, w1, rb, rk⟩ := hf i hi
    subst r0 r1 r2 r3
    have hsp : a.spot = none := by
      obtain ⟨_, _, _, _, d0, _⟩ := hf 0 (by omega)
      rw [Nat.zero_mul, add_zero] at d0
      exact spot_none d0
    obtain ⟨b, o, sp⟩ := a
    simp only at hsp
    subst hsp
    simp only [add_off] at c0 c1 c2 c3
    have hb := World.block_lt_of_cell? w _ c0
    have k0 := i64_range w0
    have k1 := i64_range w1
    have mb := rb.2.2.1
    have mk := rk.2.2.1
    unfold maxLen at mb mk
    exact ⟨b, o, rfl, hb, c0, c1, c2, c3, rb.1, by have := rb.2.1; omega, rb.bytes, rk.1, rk.ints, rb.2.1, rk.2.1, by omega, by omega, k1.1, k1.2, k0.1, k0.2, rb.2.2.2.1, rk.2.2.2.1⟩
end

end Go.Proofs.Ythphaidaknkedaa
