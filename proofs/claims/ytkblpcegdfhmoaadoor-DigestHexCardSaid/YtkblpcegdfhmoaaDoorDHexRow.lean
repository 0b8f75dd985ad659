/-
  DigestHex: for every input the law returns true, and the arguments read as they read: its card, tied to the program's text. Condition: the listed variable reads as its initialiser lays it.
-/
import Derived.Test.YtkblpcegdfhmoaaDoorDRowKit
import Derived.Test.YtkblpcegdfhmoaaDoorDHexLaw
import Derived.Test.YtkblpcegdfhmoaaDoorDOpen
import Derived.WideKeyArr2
import Derived.ChangeMaps5
namespace Go.Proofs.YtkblpcegdfhmoaaDoor
open Go.ChangeShapes Go.WideShapes Go.ChangeAt Go.RowKit Go.WideMaps

def byteOf : Value → B8
  | .int _ a => BitVec.ofInt 8 a
  | _ => 0#8
theorem mapM_each {α β : Type} {f : α → Option β} : ∀ (L : List α) (ys : List β), L.mapM f = some ys → ∀ i ∈ L, ∃ y, f i = some y
  | [], _, _, i, hi => by cases hi
  | a :: L, ys, h, i, hi => by
    rw [List.mapM_cons] at h
    simp only [bind, Option.bind_eq_some_iff, pure, Option.some.injEq] at h
    obtain ⟨y, hy, zs, hzs, rfl⟩ := h
    rcases List.mem_cons.1 hi with rfl | hi
    · exact ⟨y, hy⟩
    · exact mapM_each L zs hzs i hi
theorem cells31 : Tryd.prog.cellsOf 31 = 32 := by kernel_rfl
theorem cells5 : Tryd.prog.cellsOf 5 = 1 := by kernel_rfl
theorem arr31 : ArrKey Tryd.prog 31 5 32 := ⟨Tryd.underlying31, by kernel_rfl, cells5, cells31⟩
theorem came_array {H : Type} {enc : TypeId × Value → H} {W : World} {base b0 : Nat} {sp : Nat → Bool} {held : Bool} {v : Value} {d : DataW H} {ps : List MemPlace}
    (hval : Value.okWide Tryd.prog W .any b0 31 v) (hd : DataW.Trod enc Tryd.prog W base sp held 31 v d ps) : ∃ D : List B8, v = .agg (Vb D).toArray ∧ D.length = 32 := by
  obtain ⟨xs, rfl, hn⟩ := okWide_arr arr31 hval
  obtain ⟨fuel, hf⟩ := hd
  cases fuel with
  | zero => simp [DataW.trod] at hf
  | succ m =>
    rw [DataW.trod_step] at hf
    unfold DataW.trodStep at hf
    simp only [Tryd.underlying31, Value.cells] at hf
    rw [if_pos (by rw [cells31]; simpa using hn)] at hf
    simp only [Option.map_eq_some_iff] at hf
    obtain ⟨ys, hy, -⟩ := hf
    have each := mapM_each _ _ hy
    have hl : xs.toList.length = 32 := by simpa using hn
    refine ⟨xs.toList.map byteOf, ?_, by rw [List.length_map]; exact hl⟩
    have : Vb (xs.toList.map byteOf) = xs.toList := by
      apply List.ext_getElem?
      intro i
      rw [Vb_get, List.getElem?_map]
      by_cases hi : i < 32
      · obtain ⟨y, hy⟩ := each i (by simpa using hi)
        obtain ⟨a, ea, -, wa⟩ := DataW.trod_int Tryd.underlying5 hy
        rw [cells5, Nat.mul_one] at ea
        have hx : xs.toList[i]? = some (.int .u8 a) := by
          have h0 := congrArg (fun l => l[0]?) ea
          simpa [List.getElem?_take, List.getElem?_drop] using h0
        rw [hx]
        simp only [Option.map_some, byteOf]
        rw [← byte_of wa]
      · rw [List.getElem?_eq_none (by omega)]
        rfl
    rw [this]
theorem came_string {H : Type} {enc : TypeId × Value → H} {W : World} {base b0 : Nat} {sp : Nat → Bool} {held : Bool} {v : Value} {d : DataW H} {ps : List MemPlace}
    (hval : Value.okWide Tryd.prog W .any b0 9 v) (hd : DataW.Trod enc Tryd.prog W base sp held 9 v d ps) : ∃ T : List B8, v = strOf T := by
  obtain ⟨s, rfl, -, -, -⟩ := Go.ChangeMaps.open_string Tryd.underlying9 hval hd
  refine ⟨s.data.toList.map UInt8.toBitVec, ?_⟩
  unfold strOf
  rw [List.map_map]
  have : UInt8.ofBitVec ∘ UInt8.toBitVec = id := by funext x; rfl
  rw [this, List.map_id]

end Go.Proofs.YtkblpcegdfhmoaaDoor
namespace Go.Proofs.YtkblpcegdfhmoaaDoor.digestHex
open Go.ChangeShapes Go.WideShapes Go.ChangeAt Go.RowKit

theorem contract (H : Type) (enc : TypeId × Value → H) (W : World) (base : Nat) (args : Array Value) (ds gs : List (DataW H)) (before : List MemPlace)
    (hval : ∀ (j : Nat) t v, Tryd.f5.params[j]? = some t → args[j]? = some v → Value.okWide Tryd.prog W .any base t v)
    (hW : DataW.Whole enc Tryd.prog Tryd.f5.params.toList Rows.digestHexSpec.vars false W args.toList ds gs before) (hL : laidMetH Tryd.prog Rows.digestHexRow.laid W) :
    Calls Tryd.prog 5 args W fun e W' => ∃ v, e = .returned v ∧ Rows.digestHexSpec.post enc Tryd.prog Tryd.f5 false true false false W args v W' := by
  have hW' := hW
  obtain ⟨p, q, hA0, hV, rfl, hfz, hnd⟩ := hW
  have hA : DataW.TrodAll enc Tryd.prog W 0 (fun _ => true) true Tryd.f5.params.toList args.toList ds p := hA0
  rw [Tryd.params5] at hA hval
  obtain ⟨v0, vs0, d0, ds0, p0, q0, hargs, rfl, rfl, h0, r0⟩ := trodAll_cons hA
  obtain ⟨v1, vs1, d1, ds1, p1, q1, rfl, rfl, rfl, h1, r1⟩ := trodAll_cons r0
  obtain ⟨rfl, rfl, rfl⟩ := trodAll_nil r1
  obtain rfl : args = #[v0, v1] := by cases args; simp_all
  obtain ⟨rfl, rfl⟩ := trodVars_none hV
  have k0 := h0
  have k1 := h1
  have lt0 : ∀ x ∈ p0, x.block < W.heap.size := by obtain ⟨m, hm⟩ := k0; exact DataW.trod_lt m _ _ _ hm
  have lt1 : ∀ x ∈ p1, x.block < W.heap.size := by obtain ⟨m, hm⟩ := k1; exact DataW.trod_lt m _ _ _ hm
  clear hA0
  obtain ⟨D, rfl, hD⟩ := came_array (hval 0 31 v0 rfl rfl) h0
  obtain ⟨T, rfl⟩ := came_string (hval 1 9 v1 rfl rfl) h1
  refine (hexlaw_walk W D hD T (roots_of hL)).mono fun e W' ⟨he, bel⟩ => ?_
  subst he
  exact ⟨_, rfl, _, _, _, [], _, [], hW', trodAll_mk1 (shut_bool Tryd.underlying4 _), (trodAll_cons_mk (Below.trod laidOut (by kernel_rfl) (of_decide_eq_true (by kernel_rfl)) k0 bel lt0) (trodAll_cons_mk (Below.trod laidOut (by kernel_rfl) (of_decide_eq_true (by kernel_rfl)) k1 bel lt1) trodAll_mk0)), rfl, bel.frame _, fun h => by cases h⟩

theorem laid_met (os : Os) : laidMet Tryd.prog Rows.digestHexRow.laid ((laidWorld os).forCall (fun _ _ => 0) ⟨#[], #[.agg (Array.replicate 32 (.int .u8 0)), .string ⟨#[]⟩], []⟩).memory :=
  laidMet_of_run' 8 (by kernel_rfl) (by kernel_rfl)
theorem reads (os : Os) {H : Type} (enc : TypeId × Value → H) : ∃ places, DataW.whole enc Tryd.prog ((laidWorld os).forCall (fun _ _ => 0) ⟨#[], #[.agg (Array.replicate 32 (.int .u8 0)), .string ⟨#[]⟩], []⟩).memory Tryd.f5.params.toList Rows.digestHexSpec.vars false #[Value.agg (Array.replicate 32 (.int .u8 0)), Value.string ⟨#[]⟩].toList 8 = some ([.agg (List.replicate 32 (.lit (.int .u8 0))), .lit (.string [])], [], places) :=
  ⟨[], by kernel_rfl⟩

set_option maxRecDepth 100000 in
theorem lifted (os : Os) (started : os.Started) (H : Type) (enc : TypeId × Value → H) (F : Stop.Interp) :
    ReturnsInHanded {} Tryd.checked os 5 .any ((OpenSpec.ofChange Rows.digestHexSpec).preRow enc Tryd.prog Tryd.f5 Rows.digestHexRow.domain false Rows.digestHexRow.laid) (((OpenSpec.ofChange Rows.digestHexSpec).at F).post enc Tryd.prog Tryd.f5 false true false false) := by
  obtain ⟨places, hx⟩ := reads os enc
  refine returnsInHanded_of_row (C := Tryd.checked) (s := OpenSpec.ofChange Rows.digestHexSpec) own started (by kernel_rfl) Tryd.func5
    (witness_row_at (enc := enc) (C := Tryd.checked) false (laidWorld os) #[.agg (Array.replicate 32 (.int .u8 0)), .string ⟨#[]⟩] rfl (by kernel_rfl) (by kernel_rfl) (by kernel_rfl)
      (OpenSpec.preRow_of_cond 8 hx (by kernel_rfl) (fun k hk => by cases hk) (by kernel_rfl) (laid_met os))) ?_
  intro W base args ds gs before hval hW _ _ _ hL _ _
  exact contract H enc W base args ds gs before hval hW hL

theorem said : Rows.DigestHexSaid :=
  OpenClaim.holds_of_cond 5 Tryd.f5 rfl rfl rfl rfl rfl rfl rfl ⟨rfl, rfl, rfl, rfl, rfl⟩ rfl rfl rfl rfl rfl (by kernel_rfl) Tryd.func5 (by kernel_rfl)
    (of_decide_eq_true (by kernel_rfl)) (by unfold Func.isWrapper; first | (rw [if_pos (by decide +kernel)]; kernel_rfl) | (rw [if_neg (by decide +kernel)]; exact ⟨rfl, rfl⟩))
    (fun os started H enc _ F => by rw [OpenClaim.pre_eq_preRow]; exact lifted os started H enc F)

theorem plain (f : FuncId) (fn : Func) (hf : Tryd.pinned.checked.prog.funcNamed "creel/creellaw02.DigestHex" = some f) (hfn : Tryd.pinned.checked.prog.funcs[f]? = some fn) :
    false = Tryd.pinned.checked.prog.looks [] ∧ ∀ (j : Nat) t, fn.params[j]? = some t → Tryd.pinned.checked.prog.wantsStandIn t = false := by
  obtain rfl : f = 5 := Option.some.inj ((show Tryd.prog.funcNamed "creel/creellaw02.DigestHex" = some 5 by kernel_rfl).symm.trans hf) |>.symm
  obtain rfl : fn = Tryd.f5 := (Option.some.inj (Tryd.func5.symm.trans hfn)).symm
  refine ⟨by kernel_rfl, fun j t ht => ?_⟩
  rw [Tryd.params5] at ht
  have hm : t ∈ [31, 9] := by simpa using Array.mem_of_getElem? ht
  have hall : ([31, 9].all fun u => !Tryd.prog.wantsStandIn u) = true := by kernel_rfl
  exact (show Tryd.prog.wantsStandIn t = false by simpa using List.all_eq_true.1 hall t hm)

end Go.Proofs.YtkblpcegdfhmoaaDoor.digestHex
namespace Go.Proofs.YtkblpcegdfhmoaaDoor
theorem DigestHex_holds : Rows.DigestHexCardSaid :=
  Claim7.holds_tied_plain_at .later [] _ _ _ _ digestHex.said (fun _ h => by cases h) (by kernel_rfl) (fun _ h => by cases h) digestHex_row_tie rfl ⟨rfl, rfl⟩ (by kernel_rfl) rfl digestHex.plain (by kernel_rfl)
end Go.Proofs.YtkblpcegdfhmoaaDoor
