/-
  What the row of ModeTexts has besides: its list gives the sentinel and the kinds' names. No condition of its own.
-/
import Derived.Test.YtobklbangjjocaaDoorMRowKit
import Derived.Test.YtobklbangjjocaaDoorMMode
import Derived.Test.YtobklbangjjocaaDoorMText
import Derived.FnData
set_option linter.unusedSimpArgs false
set_option linter.unusedVariables false
set_option maxRecDepth 100000
namespace Go.Proofs.YtobklbangjjocaaDoor
open Go.ChangeShapes Go.WideShapes Go.ChangeAt Go.RowKit

theorem gES : Tryd.prog.globalNamed "strconv.ErrSyntax" = some 2 := by kernel_rfl
theorem gESType : (Tryd.prog.globals[2]?).map (·.type) = some 53 := by kernel_rfl
theorem cellsES : Tryd.prog.cellsOf 87 = 1 := by kernel_rfl
theorem cellsStr : Tryd.prog.cellsOf 9 = 1 := by kernel_rfl
theorem starES : "*" ++ "errors.errorString" = "*errors.errorString" := by decide
theorem rowES (u : TypeId) (h : Tryd.prog.typeName? 3 u = some "*errors.errorString") : u = 85 :=
  typeName_ptr_named (nm := "errors.errorString") (by rw [starES]; kernel_rfl) (by kernel_rfl) (by decide) u (by rw [starES]; exact h)
theorem es_from {W : World} {r : List (String × DataW Unit)} (h : laidMet Tryd.prog (("strconv.ErrSyntax", Rows.laid_strconv_ErrSyntax) :: r) W) : Es W := by
  obtain ⟨a0, s0, hv0, -, -, -⟩ := laid_sentinel h gES gESType Tryd.underlying53 rowES Tryd.underlying85 Tryd.underlying87 rfl rfl Tryd.underlying9 cellsES cellsStr
  exact ⟨_, _, by have h0 := World.var?_cell gES hv0 0; simpa using h0⟩

theorem gWd : Tryd.prog.globalNamed "creel/mode.words" = some 0 := by kernel_rfl
theorem gWdType : (Tryd.prog.globals[0]?).map (·.type) = some 26 := by kernel_rfl
theorem cellsWd : Tryd.prog.cellsOf 26 = 5 := by kernel_rfl
/-- An array of texts that reads as listed holds these texts. -/
theorem cells_of_strs {H : Type} {enc : TypeId × Value → H} {P : Program} {w : World} {base : Nat} {sp : Nat → Bool} {held : Bool} {fuel : Nat} {t e : TypeId} {n : Nat} {cs : List Value} {ls : List (List UInt8)} {p : List MemPlace}
    (ht : P.underlying t = some (.array n e)) (he : P.underlying e = some .string) (hce : P.cellsOf e = 1) (hct : P.cellsOf t = n)
    (h : DataW.trod enc P w base sp held fuel t cs = some (.agg (ls.map fun l => .lit (.string l)), p)) : cs = ls.map fun l => Value.string ⟨l.toArray⟩ := by
  cases fuel with
  | zero => simp [DataW.trod] at h
  | succ fuel =>
    simp only [DataW.trod, ht, hce, hct, Nat.mul_one] at h
    split at h
    · rename_i hl
      obtain ⟨xs, hm, hx⟩ := Option.map_eq_some_iff.1 h
      have hxs : xs.map (·.1) = ls.map fun l => (DataW.lit (.string l) : DataW H) := by
        have := congrArg Prod.fst hx
        simpa using this
      have hxl : xs.length = n := by simpa using Lib.mapM_length hm
      have hzl : ls.length = n := by
        have := congrArg List.length hxs
        simp at this
        omega
      apply List.ext_getElem?
      intro i
      by_cases hi : i < n
      · obtain ⟨b, hb, hf⟩ := Lib.mapM_at hm i i (by simp [hi])
        obtain ⟨s, hc, rfl, _⟩ := DataW.trod_string he hf
        have h1 : cs[i]? = some (.string s) := by
          have := congrArg (·[0]?) hc
          simpa [List.getElem?_take, List.getElem?_drop] using this
        have h2 : (xs.map (·.1))[i]? = some (DataW.lit (.string s.data.toList) : DataW H) := by simp [hb]
        rw [hxs] at h2
        simp only [List.getElem?_map, Option.map_eq_some_iff, DataW.lit.injEq, Lit.string.injEq] at h2
        obtain ⟨l, hl', hls⟩ := h2
        rw [h1, List.getElem?_map, hl', hls]
        rfl
      · rw [List.getElem?_eq_none (by omega), List.getElem?_eq_none (by simp; omega)]
    · cases h
theorem wd_from {W : World} {r : List (String × DataW Unit)} (h : laidMet Tryd.prog (("creel/mode.words", Rows.laid_creel_mode_words) :: r) W) : Wd W := by
  obtain ⟨ps, ⟨g', t', cs, fuel, p, q, hg', ht', hvar, hd, _, _⟩, _⟩ := h
  obtain rfl := Option.some.inj (gWd.symm.trans hg')
  obtain rfl := Option.some.inj (gWdType.symm.trans ht')
  have hc := cells_of_strs (ls := [[102, 105, 108, 101], [100, 105, 114], [108, 105, 110, 107], [100, 101, 118, 105, 99, 101], [112, 105, 112, 101]]) Tryd.underlying26 Tryd.underlying9 cellsStr cellsWd hd
  have hcell : ∀ i : Nat, W.cell? ⟨0, i, none⟩ = cs.toList[i]? := fun i => by rw [World.var?_cell gWd hvar i]; simp
  have k0 := hcell 0
  have k1 := hcell 1
  have k2 := hcell 2
  have k3 := hcell 3
  have k4 := hcell 4
  rw [hc] at k0 k1 k2 k3 k4
  exact ⟨World.block_lt_of_cell? W _ k0, k0, k1, k2, k3, k4⟩

/-- What the row of ModeTexts lists. -/
abbrev listed6 : List (String × DataW Unit) := [("math/bits.deBruijn32tab", Rows.laid_math_bits_deBruijn32tab), ("math/bits.deBruijn64tab", Rows.laid_math_bits_deBruijn64tab), ("internal/strconv.uint64pow10", Rows.laid_internal_strconv_uint64pow10), ("strconv.ErrRange", Rows.laid_strconv_ErrRange), ("strconv.ErrSyntax", Rows.laid_strconv_ErrSyntax), ("creel/mode.words", Rows.laid_creel_mode_words)]
theorem all_of {W : World} (h : laidMetH Tryd.prog listed6 W) : Tz W ∧ Es W ∧ Wd W := by
  have h0 : laidMet Tryd.prog listed6 W := h
  exact ⟨tz_from h0, es_from (laidMet.tail (laidMet.tail (laidMet.tail (laidMet.tail h0)))), wd_from (laidMet.tail (laidMet.tail (laidMet.tail (laidMet.tail (laidMet.tail h0)))))⟩
end Go.Proofs.YtobklbangjjocaaDoor
