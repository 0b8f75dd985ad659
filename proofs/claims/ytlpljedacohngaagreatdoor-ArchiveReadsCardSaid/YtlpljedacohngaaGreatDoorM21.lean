/-
  Opening what comes in, part by part: structs, arrays, numbers, texts; plain theorems on readings. No condition.
-/
import Derived.Test.YtlpljedacohngaaGreatDoorM1
import Derived.ProofKit
import Derived.Deep.Slices
import Derived.Lib.LaidTab
import Derived.Test.YtlpljedacohngaaGreatDoorM14
import Derived.Test.YtlpljedacohngaaGreatDoorM20
import Derived.Lib.LaidU8
import Derived.Test.YtlpljedacohngaaGreatDoorRows
import Derived.Test.YtlpljedacohngaaGreatDoorCards
import Derived.Test.YtlpljedacohngaaGreatDoorTie
import Derived.WalkKit
import Derived.OpenShut
import Derived.ShutString
import Derived.ChangeOld
import Derived.Below
import Derived.Deep.DeepHandedRow
import Derived.Test.YtlpljedacohngaaGreatDoorM12
import Derived.Test.YtlpljedacohngaaGreatDoorM13
section
set_option linter.unusedSimpArgs false
set_option linter.unusedVariables false
set_option maxRecDepth 100000
namespace Go.Proofs.YtlpljedacohngaaGreatDoor
open Go.ChangeShapes Go.WideShapes Go.ChangeAt Go.RowKit

/-- A field's type and where it begins. -/
def fieldTO (P : Program) (T : TypeId) (i : Nat) : Option (TypeId × Nat) := match P.underlying T with
  | some (.struct f) => (f[i]?).map fun f => (f.type, f.offset)
  | _ => none
theorem piece1 {cs : List Value} {o : Nat} {x : Value} (h : (cs.drop o).take 1 = [x]) : cs[o]? = some x := by
  have h1 : ((cs.drop o).take 1)[0]? = some x := by rw [h]; rfl
  rw [List.getElem?_take, if_pos (by omega), List.getElem?_drop, Nat.add_zero] at h1
  exact h1
theorem piece2 {cs : List Value} {o n p : Nat} {x : Value} (h : (((cs.drop o).take n).drop p).take 1 = [x]) : cs[o + p]? = some x := by
  have h1 := piece1 h
  rw [List.getElem?_take] at h1
  split at h1
  · rw [List.getElem?_drop] at h1
    exact h1
  · cases h1
section
variable {H : Type} {enc : TypeId × Value → H} {P : Program} {w : World} {base : Nat} {spare : Nat → Bool} {held : Bool} {fuel : Nat} {T : TypeId} {cs : List Value} {x : DataW H × List MemPlace}
theorem struct_open {i t o : Nat} (hi : fieldTO P T i = some (t, o)) (h : DataW.trod enc P w base spare held fuel T cs = some x) :
    ∃ n y, DataW.trod enc P w base spare held n t ((cs.drop o).take (P.cellsOf t)) = some y ∧ ∀ ds, x.1 = .agg ds → ds[i]? = some y.1 := by
  unfold fieldTO at hi
  cases hu : P.underlying T with
  | none => rw [hu] at hi; cases hi
  | some d =>
    rw [hu] at hi
    cases d with
    | struct fs =>
      simp only at hi
      obtain ⟨f, hf1, hf2⟩ := Option.map_eq_some_iff.1 hi
      obtain ⟨xs, n, _, e1, _, hxl, hf⟩ := DataW.trod_struct hu h
      have k := hf i f hf1
      have h3 := (Array.getElem?_eq_some_iff.1 hf1).1
      simp only [Prod.mk.injEq] at hf2
      rw [hf2.1, hf2.2] at k
      have hx : i < xs.length := by omega
      rw [List.getElem?_eq_getElem hx] at k
      refine ⟨n, _, k, fun ds he => ?_⟩
      rw [e1] at he
      injection he with he
      rw [← he, List.getElem?_map, List.getElem?_eq_getElem hx]
      rfl
    | _ => cases hi
theorem arr_open {e n : Nat} (ht : P.underlying T = some (.array n e)) (h : DataW.trod enc P w base spare held fuel T cs = some x) :
    cs.length = P.cellsOf T ∧ ∃ f, ∀ i, i < n → ∃ y, DataW.trod enc P w base spare held f e ((cs.drop (i * P.cellsOf e)).take (P.cellsOf e)) = some y ∧ ∀ ds, x.1 = .agg ds → ds[i]? = some y.1 := by
  cases fuel with
  | zero => simp [DataW.trod] at h
  | succ f =>
    simp only [DataW.trod, ht] at h
    split at h
    · rename_i hl
      obtain ⟨xs, hm, hx⟩ := Option.map_eq_some_iff.1 h
      refine ⟨hl, f, fun i hi => ?_⟩
      obtain ⟨b, hb, hf⟩ := Lib.mapM_at hm i i (by simp [hi])
      refine ⟨b, hf, fun ds he => ?_⟩
      rw [← hx] at he
      injection he with he
      rw [← he, List.getElem?_map, hb]
      rfl
    · cases h
theorem lit_int {k : IntKind} {z : Int} (ht : P.underlying T = some (.int k)) (h : DataW.trod enc P w base spare held fuel T cs = some x) (hx : x.1 = .lit (.int k z)) : cs = [.int k z] := by
  obtain ⟨n, e, e2, _⟩ := DataW.trod_int ht h
  rw [e2] at hx
  simp only [DataW.lit.injEq, Lit.int.injEq, true_and] at hx
  rw [e, hx]
end
def isStructT (P : Program) (T : TypeId) : Bool := match P.underlying T with
  | some (.struct _) => true
  | _ => false
theorem okWide_st {P : Program} {w : World} {r : Reach} {b : Nat} {T : TypeId} {v : Value} (h : isStructT P T = true) (hv : Value.okWide P w r b T v) : ∃ cs : Array Value, v = .agg cs ∧ cs.size = P.cellsOf T := by
  unfold isStructT at h
  cases hu : P.underlying T with
  | none => rw [hu] at h; cases h
  | some d =>
    rw [hu] at h
    cases d with
    | struct fs => exact okWide_struct hu hv
    | _ => cases h
end Go.Proofs.YtlpljedacohngaaGreatDoor
end

/-
  Opening what comes in: lists of texts, and lists of the document's entries. Plain theorems on readings.
-/

section
set_option linter.unusedSimpArgs false
set_option linter.unusedVariables false
set_option maxRecDepth 100000
namespace Go.Proofs.YtlpljedacohngaaGreatDoor
open Go.ChangeShapes Go.WideShapes Go.ChangeAt Go.RowKit

theorem aInt : Tryz.prog.cellsOf 3 = 1 := by kernel_rfl
theorem aStrs : Tryz.prog.cellsOf 38 = 1 := by kernel_rfl
theorem aStr : Tryz.prog.cellsOf 9 = 1 := by kernel_rfl
theorem aByts : Tryz.prog.cellsOf 22 = 1 := by kernel_rfl
theorem aEnt : Tryz.prog.cellsOf 54 = 4 := by kernel_rfl
theorem aEnts : Tryz.prog.cellsOf 27 = 1 := by kernel_rfl
theorem din_txt {w : World} {A : Option Addr} {n c : Nat} {b : List B8} (h : TxtN w w.heap.size A n c b) : DIn w A n c b := by
  refine ⟨h.txt.len, h.txt.cap, by have := h.txt.capm; unfold maxLen at this; omega, fun ha => (h.nil ha).2, fun hn => ?_⟩
  obtain ⟨g, o, hA, _, hc⟩ := h.txt.cells hn
  refine ⟨g, o, hA, World.block_lt_of_cell? w _ (hc 0 hn), fun j u hu => ?_⟩
  have hj : j < b.length := by
    have := (List.getElem?_eq_some_iff.1 hu).1
    rwa [Vb_length] at this
  rw [hc j (by rw [← h.txt.len]; exact hj)]
  rw [Vb_get, List.getElem?_eq_getElem hj] at hu
  rw [List.getD_eq_getElem?_getD, List.getElem?_eq_getElem hj]
  exact hu
section
variable {H : Type} {enc : TypeId × Value → H} {w : World} {base : Nat} {spare : Nat → Bool} {held : Bool}
theorem came_strs {fuel : Nat} {v : Value} {x : DataW H × List MemPlace} (h : DataW.trod enc Tryz.prog w base spare held fuel 38 [v] = some x) : ∃ A n c p, v = .slice A n c ∧ SIn w A n c p := by
  rcases Go.Deep.open_slice1 Tryz.underlying38 aStr h with ⟨hcs, _⟩ | ⟨a, len, cap, m, n, V, D, Pl, hcs, _, hl, hm, hmm, _, hx⟩
  · simp only [List.cons.injEq, and_true] at hcs
    subst hcs
    exact ⟨none, 0, 0, [], rfl, SIn.none _ _ (by omega) (fun _ => rfl)⟩
  · simp only [List.cons.injEq, and_true] at hcs
    subst hcs
    have hlm : len ≤ m := by rw [hmm]; split <;> omega
    have each : ∀ i, i < len → ∃ t : ByteArray, w.cell? (a.add i) = some (.string t) := by
      intro i hi
      obtain ⟨h1, h2⟩ := hx i (by omega)
      obtain ⟨t, e, _⟩ := DataW.trod_string Tryz.underlying9 h2
      simp only [List.cons.injEq, and_true] at e
      exact ⟨t, by rw [h1, e]⟩
    have : Inhabited ByteArray := ⟨⟨#[]⟩⟩
    obtain ⟨f, hf⟩ := Go.Deep.choose_lt each
    refine ⟨some a, len, cap, (List.range len).map f, rfl, by simp, by omega, by unfold maxLen at hm; omega, (fun ha => by cases ha), fun hn => ?_⟩
    have d0 := hf 0 hn
    rw [add_zero] at d0
    have hs := spot_none d0
    have hlt := World.block_lt_of_cell? w _ d0
    obtain ⟨b, o, s⟩ := a
    simp only at hs
    subst hs
    refine ⟨b, o, rfl, hlt, fun i y hy => ?_⟩
    have hi : i < len := by
      have := (List.getElem?_eq_some_iff.1 hy).1
      simpa using this
    rw [List.getElem?_map, List.getElem?_range hi] at hy
    simp only [Option.map_some, Option.some.injEq] at hy
    subst hy
    have := hf i hi
    rw [Addr.add_mid] at this
    exact this
theorem came_ent {fuel : Nat} {cs : List Value} {x : DataW H × List MemPlace} (hl : cs.length = 4) (h : DataW.trod enc Tryz.prog w base spare held fuel 54 cs = some x) : ∃ q : Ev × En, cs = evC q.1 ∧ EvRd w q.1 q.2 := by
  obtain ⟨n0, y0, k0, _⟩ := struct_open (i := 0) (t := 38) (o := 0) (by kernel_rfl) h
  obtain ⟨n1, y1, k1, _⟩ := struct_open (i := 1) (t := 3) (o := 1) (by kernel_rfl) h
  obtain ⟨n2, y2, k2, _⟩ := struct_open (i := 2) (t := 3) (o := 2) (by kernel_rfl) h
  obtain ⟨n3, y3, k3, _⟩ := struct_open (i := 3) (t := 22) (o := 3) (by kernel_rfl) h
  rw [aStrs] at k0
  rw [aInt] at k1 k2
  rw [aByts] at k3
  match cs, hl with
  | [v0, v1, v2, v3], _ =>
    simp only [List.drop_zero, List.drop_succ_cons, List.take_succ_cons, List.take_zero] at k0 k1 k2 k3
    obtain ⟨A, n, c, p, rfl, hp⟩ := came_strs k0
    obtain ⟨k, e1, _, _⟩ := DataW.trod_int Tryz.underlying3 k1
    obtain ⟨m, e2, _, _⟩ := DataW.trod_int Tryz.underlying3 k2
    obtain ⟨D, dn, dc, b, rfl, hd⟩ := came_text k3
    simp only [List.cons.injEq, and_true] at e1 e2
    subst e1 e2
    exact ⟨(⟨A, n, c, k, m, D, dn, dc⟩, ⟨p, k, m, b⟩), rfl, hp, rfl, rfl, din_txt hd⟩
theorem came_ents {fuel : Nat} {v : Value} {x : DataW H × List MemPlace} (h : DataW.trod enc Tryz.prog w base spare held fuel 27 [v] = some x) : ∃ A n c xs es, v = .slice A n c ∧ ERd w A n c xs es := by
  rcases Go.Deep.open_slice Tryz.underlying27 h with ⟨hcs, _⟩ | ⟨a, len, cap, m, n, D, Pl, hcs, _, hl, hm, hmm, _, hx⟩
  · simp only [List.cons.injEq, and_true] at hcs
    subst hcs
    exact ⟨none, 0, 0, [], [], rfl, rfl, rfl, Nat.le_refl _, by omega, fun _ => rfl, fun h => absurd h (by omega), fun i x e h => by simp at h⟩
  · simp only [List.cons.injEq, and_true] at hcs
    subst hcs
    have hlm : len ≤ m := by rw [hmm]; split <;> omega
    have each : ∀ i, i < len → ∃ q : Ev × En, (∀ j u, (evC q.1)[j]? = some u → w.cell? ((a.add (i * 4)).add j) = some u) ∧ EvRd w q.1 q.2 := by
      intro i hi
      obtain ⟨cs', h1, h2⟩ := hx i (by omega)
      rw [aEnt] at h1
      obtain ⟨_, hlen, hcell⟩ := World.cells?_some h1
      obtain ⟨q, rfl, hq⟩ := came_ent hlen h2
      refine ⟨q, fun j u hu => ?_, hq⟩
      have hj : j < 4 := (List.getElem?_eq_some_iff.1 hu).1
      rw [hcell j (by omega)]
      exact hu
    have : Inhabited (Ev × En) := ⟨(⟨none, 0, 0, 0, 0, none, 0, 0⟩, ⟨[], 0, 0, []⟩)⟩
    obtain ⟨f, hf⟩ := Go.Deep.choose_lt each
    have hget : ∀ {α : Type} (F : Ev × En → α) (i : Nat) y, ((List.range len).map fun i => F (f i))[i]? = some y → i < len ∧ y = F (f i) := by
      intro α F i y hy
      have hi : i < len := by
        have := (List.getElem?_eq_some_iff.1 hy).1
        simpa using this
      rw [List.getElem?_map, List.getElem?_range hi] at hy
      exact ⟨hi, (by simpa using hy.symm)⟩
    refine ⟨some a, len, cap, (List.range len).map (fun i => (f i).1), (List.range len).map (fun i => (f i).2), rfl, by simp, by simp, by omega, by unfold maxLen at hm; omega, (fun ha => by cases ha), fun hn => ?_, fun i y e hy he => ?_⟩
    · have d0 := (hf 0 hn).1 0 _ rfl
      rw [Nat.zero_mul, add_zero, add_zero] at d0
      have hs := spot_none d0
      have hlt := World.block_lt_of_cell? w _ d0
      obtain ⟨b, o, s⟩ := a
      simp only at hs
      subst hs
      refine ⟨b, o, rfl, hlt, fun i y hy j u hu => ?_⟩
      obtain ⟨hi, rfl⟩ := hget (·.1) i y hy
      have := (hf i hi).1 j u hu
      rw [Addr.add_mid, Addr.add_mid] at this
      exact this
    · obtain ⟨hi, rfl⟩ := hget (·.1) i y hy
      obtain ⟨_, rfl⟩ := hget (·.2) i e he
      exact (hf i hi).2
theorem came_i64 {fuel : Nat} {v : Value} {x : DataW H × List MemPlace} (h : DataW.trod enc Tryz.prog w base spare held fuel 3 [v] = some x) : ∃ z : Int, v = .int .i64 z ∧ -9223372036854775808 ≤ z ∧ z ≤ 9223372036854775807 := by
  obtain ⟨k, e1, _, hw⟩ := DataW.trod_int Tryz.underlying3 h
  simp only [List.cons.injEq, and_true] at e1
  subst e1
  have m1 : IntKind.i64.min = -9223372036854775808 := by decide
  have m2 : IntKind.i64.max = 9223372036854775807 := by decide
  simp [Lit.wf] at hw
  exact ⟨k, rfl, by omega, by omega⟩
theorem came_u8 {fuel : Nat} {v : Value} {x : DataW H × List MemPlace} (h : DataW.trod enc Tryz.prog w base spare held fuel 5 [v] = some x) : ∃ z : Int, v = .int .u8 z ∧ 0 ≤ z ∧ z < 256 := by
  obtain ⟨k, e1, _, hw⟩ := DataW.trod_int Tryz.underlying5 h
  simp only [List.cons.injEq, and_true] at e1
  subst e1
  have m1 : IntKind.u8.min = 0 := by decide
  have m2 : IntKind.u8.max = 255 := by decide
  simp [Lit.wf] at hw
  exact ⟨k, rfl, by omega, by omega⟩
end
end Go.Proofs.YtlpljedacohngaaGreatDoor
end

/-
  The signs out of their variable. Plain theorems on readings; no condition.
-/

section
set_option linter.unusedSimpArgs false
set_option linter.unusedVariables false
set_option maxRecDepth 100000
namespace Go.Proofs.YtlpljedacohngaaGreatDoor
open Go.ChangeShapes Go.WideShapes Go.ChangeAt Go.RowKit

theorem gSg : Tryz.prog.globalNamed "creel/path.signs" = some 1 := by kernel_rfl
theorem gSgT : (Tryz.prog.globals[1]?).map (·.type) = some 156 := by kernel_rfl
theorem cSgU : Tryz.prog.cellsOf 5 = 1 := by kernel_rfl
theorem cSg2 : Tryz.prog.cellsOf 155 = 2 := by kernel_rfl
theorem signs_from {W : World} {l : List (String × DataW Unit)} (h : laidMet Tryz.prog l W) (hm : ("creel/path.signs", Rows.laid_creel_path_signs) ∈ l) : PSigns W := by
  obtain ⟨g', t', cs, fuel, p, hg', ht', hvar, hd⟩ := Lib.laidMet.reads h hm
  obtain rfl := Option.some.inj (gSg.symm.trans hg')
  obtain rfl := Option.some.inj (gSgT.symm.trans ht')
  obtain ⟨_, f, hf⟩ := arr_open Tryz.underlying156 hd
  have two : ∀ i a b, i < 5 → (∀ ds, (Rows.laid_creel_path_signs : DataW Unit) = .agg ds → ds[i]? = some (.agg [.lit (.int .u8 a), .lit (.int .u8 b)])) → cs.toList[i * 2]? = some (.int .u8 a) ∧ cs.toList[i * 2 + 1]? = some (.int .u8 b) := by
    intro i a b hi hds
    obtain ⟨y, hy, hyd⟩ := hf i hi
    rw [cSg2] at hy
    have e1 := hyd _ rfl
    have e2 := hds _ rfl
    rw [e1] at e2
    injection e2 with e2
    obtain ⟨n0, z0, k0, d0⟩ := struct_open (i := 0) (t := 5) (o := 0) (by kernel_rfl) hy
    obtain ⟨n1, z1, k1, d1⟩ := struct_open (i := 1) (t := 5) (o := 1) (by kernel_rfl) hy
    rw [cSgU] at k0 k1
    have q0 := d0 _ e2
    have q1 := d1 _ e2
    simp only [List.getElem?_cons_zero, List.getElem?_cons_succ, Option.some.injEq] at q0 q1
    have r0 := piece2 (lit_int Tryz.underlying5 k0 q0.symm)
    have r1 := piece2 (lit_int Tryz.underlying5 k1 q1.symm)
    exact ⟨r0, r1⟩
  have hcell : ∀ i : Nat, W.cell? ⟨1, i, none⟩ = cs.toList[i]? := fun i => by rw [World.var?_cell gSg hvar i]; simp
  have t0 := two 0 97 122 (by omega) (fun ds h => by cases h; rfl)
  have t1 := two 1 48 57 (by omega) (fun ds h => by cases h; rfl)
  have t2 := two 2 46 46 (by omega) (fun ds h => by cases h; rfl)
  have t3 := two 3 45 45 (by omega) (fun ds h => by cases h; rfl)
  have t4 := two 4 95 95 (by omega) (fun ds h => by cases h; rfl)
  intro i hi
  rw [hcell]
  match i, hi with
  | 0, _ => exact t0.1
  | 1, _ => exact t0.2
  | 2, _ => exact t1.1
  | 3, _ => exact t1.2
  | 4, _ => exact t2.1
  | 5, _ => exact t2.2
  | 6, _ => exact t3.1
  | 7, _ => exact t3.2
  | 8, _ => exact t4.1
  | 9, _ => exact t4.2
end Go.Proofs.YtlpljedacohngaaGreatDoor
end

/-
  What every row of this seat shares: a world for the witness. No condition of its own.
-/

section
set_option linter.unusedSimpArgs false
set_option linter.unusedVariables false
set_option maxRecDepth 100000
namespace Go.Proofs.YtlpljedacohngaaGreatDoor
open Go.ChangeShapes Go.WideShapes Go.ChangeAt Go.RowKit

theorem own : ownKnob Tryz.prog.godebug = none := by kernel_rfl
theorem laidOut : laidOutB Tryz.prog = true := by kernel_rfl
noncomputable def low (os : Os) : Nat := (World.holding Tryz.prog os ⟨#[], #[], []⟩).heap.size
def put (g : Nat) (cs : Array Value) (w : World) : World := { w with heap := w.heap.modify g fun
      | .cells _ t frozen => .cells cs t frozen
      | o => o }
/-- A world for the witness: the settled one, the variables holding what their initialisers lay. -/
noncomputable def laidWorld (os : Os) : World :=
  put 0 #[.int .u32 1116352408, .int .u32 1899447441, .int .u32 3049323471, .int .u32 3921009573, .int .u32 961987163, .int .u32 1508970993, .int .u32 2453635748, .int .u32 2870763221, .int .u32 3624381080, .int .u32 310598401, .int .u32 607225278, .int .u32 1426881987, .int .u32 1925078388, .int .u32 2162078206, .int .u32 2614888103, .int .u32 3248222580, .int .u32 3835390401, .int .u32 4022224774, .int .u32 264347078, .int .u32 604807628, .int .u32 770255983, .int .u32 1249150122, .int .u32 1555081692, .int .u32 1996064986, .int .u32 2554220882, .int .u32 2821834349, .int .u32 2952996808, .int .u32 3210313671, .int .u32 3336571891, .int .u32 3584528711, .int .u32 113926993, .int .u32 338241895, .int .u32 666307205, .int .u32 773529912, .int .u32 1294757372, .int .u32 1396182291, .int .u32 1695183700, .int .u32 1986661051, .int .u32 2177026350, .int .u32 2456956037, .int .u32 2730485921, .int .u32 2820302411, .int .u32 3259730800, .int .u32 3345764771, .int .u32 3516065817, .int .u32 3600352804, .int .u32 4094571909, .int .u32 275423344, .int .u32 430227734, .int .u32 506948616, .int .u32 659060556, .int .u32 883997877, .int .u32 958139571, .int .u32 1322822218, .int .u32 1537002063, .int .u32 1747873779, .int .u32 1955562222, .int .u32 2024104815, .int .u32 2227730452, .int .u32 2361852424, .int .u32 2428436474, .int .u32 2756734187, .int .u32 3204031479, .int .u32 3329325298] (put 4 #[.int .u8 128, .int .u8 191, .int .u8 160, .int .u8 191, .int .u8 128, .int .u8 159, .int .u8 144, .int .u8 191, .int .u8 128, .int .u8 143, .int .u8 0, .int .u8 0, .int .u8 0, .int .u8 0, .int .u8 0, .int .u8 0, .int .u8 0, .int .u8 0, .int .u8 0, .int .u8 0, .int .u8 0, .int .u8 0, .int .u8 0, .int .u8 0, .int .u8 0, .int .u8 0, .int .u8 0, .int .u8 0, .int .u8 0, .int .u8 0, .int .u8 0, .int .u8 0] (put 1 #[.int .u8 97, .int .u8 122, .int .u8 48, .int .u8 57, .int .u8 46, .int .u8 46, .int .u8 45, .int .u8 45, .int .u8 95, .int .u8 95] (put 3 ((Go.Pinned.utf8FirstZ.map fun (z : Nat) => Value.int .u8 (z : Int)).toArray) (World.holding Tryz.prog os ⟨#[], #[], []⟩))))
end Go.Proofs.YtlpljedacohngaaGreatDoor
end

/-
  What the variables hold when a call begins. Plain theorems on readings; conditions: the listed variables read as their initialisers lay them, the world has its shape.
-/

section
set_option linter.unusedSimpArgs false
set_option linter.unusedVariables false
set_option maxRecDepth 100000
namespace Go.Proofs.YtlpljedacohngaaGreatDoor
open Go.RowKit

theorem pv_from {W : World} {l : List (String × DataW Unit)} (h : laidMet Tryz.prog l W) (hm : ("creel/path.signs", Rows.laid_creel_path_signs) ∈ l) (hs : W.ShapedOpen Tryz.prog) : PV W := ⟨signs_from h hm, Tryz.laysM219.s1_3 W hs⟩
end Go.Proofs.YtlpljedacohngaaGreatDoor
end
