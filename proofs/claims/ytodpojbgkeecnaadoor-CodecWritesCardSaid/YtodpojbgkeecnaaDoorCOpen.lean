/-
  Opening what comes in: bytes, numbers, tokens, as the words that the walks take. Plain theorems on readings.
-/
import Derived.Test.YtodpojbgkeecnaaDoorCBuildPre
import Derived.ProofKit
import Derived.Deep.Slices
set_option linter.unusedSimpArgs false
set_option linter.unusedVariables false
namespace Go.Proofs.YtodpojbgkeecnaaDoor
open Go.ChangeShapes Go.WideShapes Go.ChangeAt Go.RowKit

theorem spot_none {w : World} {a : Addr} {u : Value} (h : w.cell? a = some u) : a.spot = none := by
  unfold World.cell? at h
  split at h
  · split at h
    · cases h
    · rename_i hs; simpa using hs
  · cases h
theorem add_zero (a : Addr) : a.add 0 = a := by simp [Addr.add]
theorem byte_of {n : Int} (h : (Lit.int .u8 n).wf = true) : ((UInt8.ofNat n.toNat).toNat : Int) = n := by
  simp [Lit.wf, IntKind.min, IntKind.max, IntKind.signed, IntKind.bits] at h
  simp
  omega
theorem i64_range {x : Int} (h : (Lit.int .i64 x).wf = true) : -9223372036854775808 ≤ x ∧ x ≤ 9223372036854775807 := by
  have e1 : IntKind.i64.min = -9223372036854775808 := by decide
  have e2 : IntKind.i64.max = 9223372036854775807 := by decide
  simp [Lit.wf] at h
  omega

section
variable {H : Type} {enc : TypeId × Value → H} {w : World} {base : Nat} {spare : Nat → Bool} {held : Bool}
theorem came_bytes {fuel : Nat} {v : Value} {x : DataW H × List MemPlace} (h : DataW.trod enc Tryd.prog w base spare held fuel 23 [v] = some x) : ∃ A n c b, v = .slice A n c ∧ BIn w (fun _ => True) A n c b := by
  rcases open_ints Tryd.underlying23 Tryd.underlying5 (by kernel_rfl) h with ⟨hcs, _⟩ | ⟨a, len, cap, zs, hcs, _, hl, hm, hz, _, hcell, hwz⟩
  · simp only [List.cons.injEq, and_true] at hcs
    subst hcs
    exact ⟨none, 0, 0, [], rfl, BIn.none _ _⟩
  · simp only [List.cons.injEq, and_true] at hcs
    subst hcs
    have hlz : len ≤ zs.length := by rw [hz]; split <;> omega
    refine ⟨some a, len, cap, (zs.take len).map (fun z => UInt8.ofNat z.toNat), rfl, ⟨by rw [List.length_map, List.length_take]; omega, hl, hm, (fun h => by cases h), fun hn => ?_⟩⟩
    have h0 := hcell 0 (by omega)
    rw [add_zero] at h0
    have hs := spot_none h0
    obtain ⟨b, o, s⟩ := a
    simp only at hs
    subst hs
    refine ⟨b, o, rfl, trivial, fun j x hx => ?_⟩
    rw [List.getElem?_map, List.getElem?_take] at hx
    split at hx
    · rename_i hj
      have hjz : j < zs.length := by omega
      have hc := hcell j hjz
      rw [add_off] at hc
      rw [hc, List.getD_eq_getElem?_getD]
      rw [List.getElem?_eq_getElem hjz] at hx ⊢
      simp only [Option.map_some, Option.some.injEq] at hx
      subst hx
      rw [byte_of (hwz _ (List.getElem_mem hjz))]
      rfl
    · cases hx
theorem came_ints {fuel : Nat} {v : Value} {x : DataW H × List MemPlace} (h : DataW.trod enc Tryd.prog w base spare held fuel 44 [v] = some x) : ∃ A n c ps, v = .slice A n c ∧ n ≤ 9223372036854775807 ∧ PIn w A n c ps := by
  rcases open_ints Tryd.underlying44 Tryd.underlying3 (by kernel_rfl) h with ⟨hcs, _⟩ | ⟨a, len, cap, zs, hcs, _, hl, hm, hz, _, hcell, hwz⟩
  · simp only [List.cons.injEq, and_true] at hcs
    subst hcs
    exact ⟨none, 0, 0, [], rfl, by omega, rfl, Nat.le_refl _, fun x hx => by simp at hx, fun h => absurd h (by omega)⟩
  · simp only [List.cons.injEq, and_true] at hcs
    subst hcs
    have hlz : len ≤ zs.length := by rw [hz]; split <;> omega
    refine ⟨some a, len, cap, zs.take len, rfl, by unfold maxLen at hm; omega, by rw [List.length_take]; omega, hl, fun x hx => i64_range (hwz x (List.mem_of_mem_take hx)), fun hn => ?_⟩
    have h0 := hcell 0 (by omega)
    rw [add_zero] at h0
    have hs := spot_none h0
    have hlt := World.block_lt_of_cell? w _ h0
    obtain ⟨b, o, s⟩ := a
    simp only at hs
    subst hs
    refine ⟨b, o, rfl, hlt, fun j x hx => ?_⟩
    rw [List.getElem?_take] at hx
    split at hx
    · have hj : j < zs.length := (List.getElem?_eq_some_iff.1 hx).1
      have := hcell j hj
      rw [add_off] at this
      rw [this]
      simp [hx]
    · cases hx
end

noncomputable def kfields : Array Field := match Tryd.prog.underlying 51 with | some (.struct f) => f | _ => #[]
theorem kfields_eq : Tryd.prog.underlying 51 = some (.struct kfields) := by kernel_rfl
theorem kf0 : (kfields[0]?).map (fun f => (f.type, f.offset)) = some (3, 0) := by kernel_rfl
theorem kf1 : (kfields[1]?).map (fun f => (f.type, f.offset)) = some (3, 1) := by kernel_rfl
theorem kf2 : (kfields[2]?).map (fun f => (f.type, f.offset)) = some (23, 2) := by kernel_rfl
theorem kcells : Tryd.prog.cellsOf 51 = 3 := by kernel_rfl
theorem kf_get {i : Nat} {t o : Nat} (h : (kfields[i]?).map (fun f => (f.type, f.offset)) = some (t, o)) : ∃ f, kfields[i]? = some f ∧ f.type = t ∧ f.offset = o := by
  cases hf : kfields[i]? with
  | none => rw [hf] at h; cases h
  | some f => rw [hf] at h; simp only [Option.map_some, Option.some.injEq, Prod.mk.injEq] at h; exact ⟨f, rfl, h.1, h.2⟩
/-- A token that came in, as three values and what they lead to. -/
def CameTok (w : World) (v0 v1 v2 : Value) (t : Tok) : Prop := v0 = .int .i64 t.kind ∧ v1 = .int .i64 t.n ∧ (t.fits ∧ -9223372036854775808 ≤ t.kind ∧ t.kind ≤ 9223372036854775807) ∧ ∃ A n c, v2 = .slice A n c ∧ BIn w (fun _ => True) A n c t.b

section
variable {H : Type} {enc : TypeId × Value → H} {w : World} {base : Nat} {spare : Nat → Bool} {held : Bool}
theorem came_tok {fuel : Nat} {v0 v1 v2 : Value} {x : DataW H × List MemPlace} (h : DataW.trod enc Tryd.prog w base spare held fuel 51 [v0, v1, v2] = some x) : ∃ t, CameTok w v0 v1 v2 t := by
  obtain ⟨xs, n, _, _, _, hxl, hf⟩ := DataW.trod_struct kfields_eq h
  obtain ⟨f0, g0, t0, o0⟩ := kf_get kf0
  obtain ⟨f1, g1, t1, o1⟩ := kf_get kf1
  obtain ⟨f2, g2, t2, o2⟩ := kf_get kf2
  have k0 := hf 0 f0 g0
  have k1 := hf 1 f1 g1
  have k2 := hf 2 f2 g2
  rw [t0, o0, show Tryd.prog.cellsOf 3 = 1 from by kernel_rfl] at k0
  rw [t1, o1, show Tryd.prog.cellsOf 3 = 1 from by kernel_rfl] at k1
  rw [t2, o2, show Tryd.prog.cellsOf 23 = 1 from by kernel_rfl] at k2
  simp only [List.drop_zero, List.drop_succ_cons, List.take_succ_cons, List.take_zero] at k0 k1 k2
  have full : ∀ i, i < 3 → ∃ y, xs[i]? = some y := by
    intro i hi
    refine ⟨_, List.getElem?_eq_getElem ?_⟩
    have h3 := (Array.getElem?_eq_some_iff.1 g2).1
    omega
  obtain ⟨y0, e0⟩ := full 0 (by omega)
  obtain ⟨y1, e1⟩ := full 1 (by omega)
  obtain ⟨y2, e2⟩ := full 2 (by omega)
  rw [e0] at k0
  rw [e1] at k1
  rw [e2] at k2
  obtain ⟨z0, q0, _, w0⟩ := DataW.trod_int Tryd.underlying3 k0
  obtain ⟨z1, q1, _, w1⟩ := DataW.trod_int Tryd.underlying3 k1
  simp only [List.cons.injEq, and_true] at q0 q1
  obtain ⟨A2, n2, c2, b, q2, r2⟩ := came_bytes k2
  have i0 := i64_range w0
  have i1 := i64_range w1
  exact ⟨⟨z0, z1, b⟩, q0, q1, ⟨i1, i0⟩, A2, n2, c2, q2, r2⟩
theorem came_toks {fuel : Nat} {v : Value} {x : DataW H × List MemPlace} (h : DataW.trod enc Tryd.prog w base spare held fuel 22 [v] = some x) :
    ∃ A n c ts, v = .slice A n c ∧ KIn w A n c ts := by
  rcases Go.Deep.open_slice Tryd.underlying22 h with ⟨hcs, _⟩ | ⟨a, len, cap, m, n, D, Pl, hcs, _, hl, hm, hmm, _, hx⟩
  · simp only [List.cons.injEq, and_true] at hcs
    subst hcs
    exact ⟨none, 0, 0, [], rfl, rfl, Nat.le_refl _, by omega, fun t ht => by simp at ht, fun h => absurd h (by omega)⟩
  · simp only [List.cons.injEq, and_true] at hcs
    subst hcs
    have hlm : len ≤ m := by rw [hmm]; split <;> omega
    have each : ∀ i, i < len → ∃ q : Tok, ∃ v0 v1 v2, w.cell? (a.add (i * 3)) = some v0 ∧ w.cell? ((a.add (i * 3)).add 1) = some v1 ∧ w.cell? ((a.add (i * 3)).add 2) = some v2 ∧ CameTok w v0 v1 v2 q := by
      intro i hi
      obtain ⟨cs', h1, h2⟩ := hx i (by omega)
      rw [kcells] at h1
      obtain ⟨_, hlen, hcell⟩ := World.cells?_some h1
      match cs', hlen with
      | [v0, v1, v2], _ =>
        obtain ⟨q, hq⟩ := came_tok h2
        have e0 := hcell 0 (by omega)
        rw [add_zero] at e0
        exact ⟨q, v0, v1, v2, e0, hcell 1 (by omega), hcell 2 (by omega), hq⟩
    have : Inhabited Tok := ⟨⟨0, 0, []⟩⟩
    obtain ⟨f, hf⟩ := Go.Deep.choose_lt each
    refine ⟨some a, len, cap, (List.range len).map f, rfl, by simp, hl, by unfold maxLen at hm; omega, fun t ht => ?_, fun hn => ?_⟩
    · simp only [List.mem_map, List.mem_range] at ht
      obtain ⟨i, hi, rfl⟩ := ht
      obtain ⟨_, _, _, _, _, _, _, _, hfit, _⟩ := hf i hi
      exact hfit
    · have hsp : a.spot = none := by
        obtain ⟨_, _, _, d0, _⟩ := hf 0 hn
        rw [Nat.zero_mul, add_zero] at d0
        exact spot_none d0
      have hlt : a.block < w.heap.size := by
        obtain ⟨_, _, _, d0, _⟩ := hf 0 hn
        rw [Nat.zero_mul, add_zero] at d0
        exact World.block_lt_of_cell? w _ d0
      obtain ⟨b, o, sp⟩ := a
      simp only at hsp
      subst hsp
      refine ⟨b, o, rfl, hlt, fun i t ht => ?_⟩
      have hi : i < len := by
        have := (List.getElem?_eq_some_iff.1 ht).1
        simpa using this
      rw [List.getElem?_map, List.getElem?_range hi] at ht
      simp only [Option.map_some, Option.some.injEq] at ht
      subst ht
      obtain ⟨v0, v1, v2, c0, c1, c2, r0, r1, _, A2, n2, k2, r2, hb⟩ := hf i hi
      subst r0 r1 r2
      simp only [add_off] at c0 c1 c2
      exact ⟨A2, n2, k2, c0, c1, c2, hb⟩
end

end Go.Proofs.YtodpojbgkeecnaaDoor
