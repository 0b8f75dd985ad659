/-
  Building a waiting write and a slice of one; a sector's bytes loaded as an array. Conditions: 64 bytes; each cell is there.
-/
import Derived.Test.YthphaidaknkedaaProg
import Derived.Test.YthphaidaknkedaaBState
import Derived.Great.BuildSlice
namespace Go.Proofs.Ythphaidaknkedaa
open Go.RowKit

/-- The fields of a waiting write. -/
noncomputable def wfields : Array Field := match Try.prog.underlying 73 with | some (.struct f) => f | _ => #[]
theorem wfields_eq : Try.prog.underlying 73 = some (.struct wfields) := by kernel_rfl
theorem wzero (W : World) : (zeroValue 73).run Try.prog W = .ok (.agg (.int .i64 0 :: List.replicate 64 (.int .u8 0)).toArray) W := by kernel_rfl
theorem wplaces (W : World) : (wfields.mapM fun (f : Field) => (do pure (f.offset, ← sizeOf f.type) : Sem (Nat × Nat))).run Try.prog W = .ok #[(0, 1), (1, 64)] W := by kernel_rfl

theorem fill_two (a b : Value) (cs zs : List Value) (ha : a.cells = #[a]) (hb : b.cells = cs.toArray) (hc : cs.length = 64) (hz : zs.length = 64) (z : Value) :
    Instr.fill (fun i => #[(0, 1), (1, 64)][i]?) (z :: zs).toArray [(0, a), (1, b)] = some (a :: cs).toArray := by
  obtain ⟨g1, g2⟩ := Great.foldl_set 1 cs 0 (a :: zs).toArray
  have e : (#[(0, 1), (1, 64)] : Array (Nat × Nat))[0]? = some (0, 1) := rfl
  have e' : (#[(0, 1), (1, 64)] : Array (Nat × Nat))[1]? = some (1, 64) := rfl
  unfold Instr.fill
  simp only [e, ha]
  rw [if_neg (by simp)]
  unfold Instr.fill
  simp only [e', hb]
  rw [if_neg (by simp [hc, hz])]
  unfold Instr.fill
  have h0 : (#[a].zipIdx.foldl (fun cs (x : Value × Nat) => cs.setIfInBounds (0 + x.2) x.1) (z :: zs).toArray) = (a :: zs).toArray := by simp
  rw [h0, ← Array.foldl_toList, Array.toList_zipIdx]
  congr 1
  apply Array.ext_getElem?
  intro k
  rw [g2 k]
  simp only [List.getElem?_toArray, List.size_toArray, List.length_cons, hz, hc]
  by_cases h : 1 ≤ k ∧ k < 65
  · rw [if_pos ⟨by omega, by omega, by omega⟩]
    obtain ⟨m, rfl⟩ : ∃ m, k = m + 1 := ⟨k - 1, by omega⟩
    rw [List.getElem?_cons_succ]
    congr 1
  · rw [if_neg (by omega)]
    by_cases hk : k = 0
    · subst hk; rfl
    · rw [List.getElem?_eq_none (by simp [hz]; omega), List.getElem?_eq_none (by simp [hc]; omega)]

theorem run_build_waiting (no : Int) (bs : List Int) (hb : bs.length = 64) (W : World) :
    (Instr.build 73 #[(0, .int .i64 no), (1, .agg (U bs).toArray)]).run Try.prog W = .ok (.agg (.int .i64 no :: U bs).toArray) W := by
  have hf := fill_two (.int .i64 no) (.agg (U bs).toArray) (U bs) (List.replicate 64 (.int .u8 0)) rfl rfl (by rw [U_length, hb]) (by simp) (.int .i64 0)
  simp only [Instr.build, Sem.run_bind, wzero, Result.andThen_ok, run_underlying wfields_eq, wplaces, Value.cells, hf]
  rfl

theorem winfo : (Try.prog.info? 73).map (fun i => (i.zero, i.size, i.bytes)) = some (some (.agg (.int .i64 0 :: List.replicate 64 (.int .u8 0)).toArray), 65, 72) := by kernel_rfl

theorem run_slice_waiting (no : Int) (bs : List Int) (hb : bs.length = 64) (W : World) :
    (Instr.buildSlice 62 1 #[(0, .agg (.int .i64 no :: U bs).toArray)]).run Try.prog W = .ok (.slice (some ⟨W.heap.size, 0, none⟩) 1 1) (W.alloc (.cells (.int .i64 no :: U bs).toArray 73)) := by
  obtain ⟨i0, hi, hz0, hz1, hz2⟩ := info_parts winfo
  refine run_buildSlice W _ 73 1 _ _ i0 _ (by kernel_rfl) hi hz0 (by rw [hz1]; omega) (by rw [hz1]; omega) ?_
  have := Great.fill_whole (s := 65) (by omega) [.agg (.int .i64 no :: U bs).toArray]
    ((Array.range (1 * 65)).map ((.agg (.int .i64 0 :: List.replicate 64 (.int .u8 0)).toArray : Value).cells[· % (.agg (.int .i64 0 :: List.replicate 64 (.int .u8 0)).toArray : Value).cells.size]!)) (by
      intro v hv
      simp only [List.mem_singleton] at hv
      subst hv
      simp [Value.cells, U_length, hb]) (by simp)
  rw [hz1]
  simpa [Value.cells] using this

/-- The 64 cells from a on; are they all there? -/
def read64 (W : World) (a : Addr) : List Value := (List.range 64).map fun i => (W.cell? (a.add i)).getD undef
def all64 (W : World) (a : Addr) : Bool := (List.range 64).all fun i => (W.cell? (a.add i)).isSome
theorem read64_drew (W : World) (a : Addr) : read64 W.drew a = read64 W a := rfl
theorem all64_drew (W : World) (a : Addr) : all64 W.drew a = all64 W a := rfl
theorem read64_of {W : World} {a : Addr} {cs : List Value} (hc : cs.length = 64) (h : ∀ j u, cs[j]? = some u → W.cell? (a.add j) = some u) : all64 W a = true ∧ read64 W a = cs := by
  refine ⟨List.all_eq_true.2 fun i hi => ?_, ?_⟩
  · have hlt : i < cs.length := by rw [hc]; exact List.mem_range.1 hi
    rw [h i _ (List.getElem?_eq_getElem hlt)]; rfl
  · apply List.ext_getElem?
    intro k
    unfold read64
    rw [List.getElem?_map]
    by_cases hk : k < 64
    · have hlt : k < cs.length := by omega
      rw [List.getElem?_range hk, List.getElem?_eq_getElem hlt]
      simp [h k _ (List.getElem?_eq_getElem hlt)]
    · rw [List.getElem?_eq_none (by simp; omega), List.getElem?_eq_none (by omega)]; rfl

theorem run_arrayAt64 (W : World) (a : Addr) (c : Nat) : (Instr.arrayAt 71 (.slice (some a) 64 c)).run Try.prog W = .ok (.pointer (some a)) W := by kernel_rfl

theorem run_load64 (W : World) (a : Addr) (h : all64 W a = true) : (Instr.loadAt 71 (.pointer (some a))).run Try.prog W = .ok (.agg (read64 W a).toArray) W := by
  have hl := run_loadCells_list (P := Try.prog) W a (read64 W a) (fun j v hv => by
    unfold read64 at hv
    rw [List.getElem?_map] at hv
    by_cases hj : j < 64
    · rw [List.getElem?_range hj] at hv
      simp at hv
      have := List.all_eq_true.1 h j (List.mem_range.2 hj)
      obtain ⟨u, hu⟩ := Option.isSome_iff_exists.1 this
      rw [hu] at hv ⊢
      simpa using hv
    · rw [List.getElem?_eq_none (by simp; omega)] at hv
      cases hv)
  have hn : (read64 W a).length = 64 := by simp [read64]
  rw [hn] at hl
  have ha : (isAgg 71).run Try.prog W = .ok true W := by kernel_rfl
  have hs : (sizeOf 71).run Try.prog W = .ok 64 W := by kernel_rfl
  simp only [Instr.loadAt, Instr.sureAddr, Sem.run_bind, Sem.run_pure, Result.andThen_ok, loadVar, ha, hs, if_true, hl]

/-- The same three as rules on a whole operation: for a region that draws its order. -/
def all64V (W : World) : Value → Bool
  | .pointer (some a) => all64 W a
  | _ => false
def read64V (W : World) : Value → List Value
  | .pointer (some a) => read64 W a
  | _ => []
theorem all64V_ptr (W : World) (a : Addr) : all64V W (.pointer (some a)) = all64 W a := rfl
theorem read64V_ptr (W : World) (a : Addr) : read64V W (.pointer (some a)) = read64 W a := rfl
section
variable (ρ : Operand → Value) (d : Option Tmp) (t : TypeId) (p : String) (af : Array Edge) (gd : Option (Nat × Bool)) (W : World)
theorem exec_load64 (x : Operand) (h : all64V W (ρ x) = true) :
    (execOp ρ ⟨d, .load 71 x, t, p, af, gd⟩).run Try.prog W = .ok (.value (.agg (read64V W (ρ x)).toArray)) W := by
  generalize hv : ρ x = v at h ⊢
  unfold all64V at h
  split at h
  · simp only [execOp, hv, Sem.run_bind, run_load64 W _ h, Result.andThen_ok, Sem.run_pure, read64V]
  · cases h

def noOf : Value → Int
  | .int .i64 n => n
  | _ => 0
def bytesIn : Value → List Value
  | .agg cs => cs.toList
  | _ => []
def isWait (v u : Value) : Bool :=
  match v, u with
  | .int .i64 _, .agg cs => cs.size == 64
  | _, _ => false
theorem isWait_U (no : Int) (bs : List Int) : isWait (.int .i64 no) (.agg (U bs).toArray) = (bs.length == 64) := by simp [isWait, U_length]
theorem run_build_waiting' (no : Int) (cs : Array Value) (hb : cs.size = 64) (W : World) :
    (Instr.build 73 #[(0, .int .i64 no), (1, .agg cs)]).run Try.prog W = .ok (.agg (.int .i64 no :: cs.toList).toArray) W := by
  have hf := fill_two (.int .i64 no) (.agg cs) cs.toList (List.replicate 64 (.int .u8 0)) rfl (by simp [Value.cells]) (by simpa using hb) (by simp) (.int .i64 0)
  simp only [Instr.build, Sem.run_bind, wzero, Result.andThen_ok, run_underlying wfields_eq, wplaces, Value.cells, hf]
  rfl
theorem exec_build_waiting (x y : Operand) (h : isWait (ρ x) (ρ y) = true) :
    (execOp ρ ⟨d, .build 73 #[(0, x), (1, y)], t, p, af, gd⟩).run Try.prog W = .ok (.value (.agg (.int .i64 (noOf (ρ x)) :: bytesIn (ρ y)).toArray)) W := by
  have e : (#[(0, x), (1, y)] : Array (Nat × Operand)).map (fun (i, x) => (i, ρ x)) = #[(0, ρ x), (1, ρ y)] := by simp
  have e' : execOp ρ ⟨d, .build 73 #[(0, x), (1, y)], t, p, af, gd⟩ = (do pure (.value (← Instr.build 73 #[(0, ρ x), (1, ρ y)]))) := by
    unfold execOp
    rw [← e]
  rw [e']
  generalize ρ x = v at h ⊢
  generalize ρ y = u at h ⊢
  unfold isWait at h
  split at h
  · rename_i n cs
    simp only [Sem.run_bind, run_build_waiting' _ _ (beq_iff_eq.1 h) W, Result.andThen_ok, Sem.run_pure, noOf, bytesIn]
  · cases h

def is65 : Value → Bool
  | .agg cs => cs.size == 65
  | _ => false
theorem is65_U (no : Int) (bs : List Int) : is65 (.agg (.int .i64 no :: U bs).toArray) = (bs.length == 64) := by
  simp [is65, U_length]
theorem exec_slice_waiting (x : Operand) (h : is65 (ρ x) = true) :
    (execOp ρ ⟨d, .buildSlice 62 1 #[(0, x)], t, p, af, gd⟩).run Try.prog W = .ok (.value (.slice (some ⟨W.heap.size, 0, none⟩) 1 1)) (W.alloc (.cells (bytesIn (ρ x)).toArray 73)) := by
  have e : (#[(0, x)] : Array (Nat × Operand)).map (fun (i, x) => (i, ρ x)) = #[(0, ρ x)] := by simp
  have e' : execOp ρ ⟨d, .buildSlice 62 1 #[(0, x)], t, p, af, gd⟩ = (do pure (.value (← Instr.buildSlice 62 1 #[(0, ρ x)]))) := by
    unfold execOp
    rw [← e]
  rw [e']
  generalize ρ x = v at h ⊢
  unfold is65 at h
  split at h
  · rename_i cs
    have hs : cs.size = 65 := beq_iff_eq.1 h
    obtain ⟨i0, hi, hz0, hz1, hz2⟩ := info_parts winfo
    have hr := run_buildSlice W 62 73 1 #[(0, .agg cs)] cs i0 _ (by kernel_rfl) hi hz0 (by rw [hz1]; omega) (by rw [hz1]; omega) (by
      have := Great.fill_whole (s := 65) (by omega) [.agg cs]
        ((Array.range (1 * 65)).map ((.agg (.int .i64 0 :: List.replicate 64 (.int .u8 0)).toArray : Value).cells[· % (.agg (.int .i64 0 :: List.replicate 64 (.int .u8 0)).toArray : Value).cells.size]!)) (by
          intro v hv
          simp only [List.mem_singleton] at hv
          subst hv
          simpa [Value.cells] using hs) (by simp)
      rw [hz1]
      simpa [Value.cells] using this)
    simp only [Sem.run_bind, hr, Result.andThen_ok, Sem.run_pure, bytesIn, Array.toArray_toList]
  · cases h
theorem noOf_int (n : Int) : noOf (.int .i64 n) = n := rfl
theorem bytesIn_agg (cs : List Value) : bytesIn (.agg cs.toArray) = cs := rfl
end

end Go.Proofs.Ythphaidaknkedaa
