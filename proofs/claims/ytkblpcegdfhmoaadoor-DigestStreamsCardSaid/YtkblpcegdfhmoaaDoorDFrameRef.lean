/-
  The document's own Frame. Condition: the texts are known, of at most 300 bytes.
-/
import Derived.Test.YtkblpcegdfhmoaaDoorDFrames
namespace Go.Proofs.YtkblpcegdfhmoaaDoor
open Go.RowKit

theorem fr_small (n : Nat) (hn : n ≤ 300) : [Value.int .u8 ((n : Int) / 16777216), .int .u8 ((n : Int) / 65536), .int .u8 ((n : Int) / 256), .int .u8 ((n : Int) % 256)] = Vb (fr n) := by
  rw [← fr_cells n (by omega)]
  have h1 : (n : Int) / 65536 = (n : Int) / 65536 % 256 := by omega
  have h2 : (n : Int) / 256 = (n : Int) / 256 % 256 := by omega
  rw [← h1, ← h2]
theorem four_one (a b c d : Int) : ∀ u ∈ [Value.int .u8 a, .int .u8 b, .int .u8 c, .int .u8 d], u.oneCell' = true := by
  intro u hu
  simp only [List.mem_cons, List.not_mem_nil, or_false] at hu
  rcases hu with rfl | rfl | rfl | rfl <;> rfl
theorem new_row (w : World) (cs : List Value) (t : TypeId) : ∀ j u, cs[j]? = some u → (w.alloc (.cells cs.toArray t)).cell? ((⟨w.heap.size, 0, none⟩ : Addr).add j) = some u := by
  intro j u hu
  rw [Addr.add_mid, Nat.zero_add, (Blk.new w t cs).cell j, hu]

set_option maxHeartbeats 400000 in
set_option maxRecDepth 100000 in
theorem frame_ref (w : World) (L : Option Addr) (n c : Nat) (xs : List (List B8)) (ht : TxtsN w w.heap.size L n xs) (hn : n ≤ 13) (hsm : ∀ x ∈ xs, x.length ≤ 300) :
    Calls Tryd.prog 11 #[.slice L n c] w fun e w' => ∃ v, e = .returned v ∧ w'.ownsRow w.heap.size 5 1 v (framesOf xs).length (Vb (framesOf xs)) ∧ Below w.heap.size w w' := by
  obtain ⟨i0, hi, hz0, hz1, hz2⟩ := info_parts (show (Tryd.prog.info? 5).map (fun i => (i.zero, i.size, i.bytes)) = some (some (.int .u8 0), 1, 1) by kernel_rfl)
  have HI := Lib.hid (And.intro hi (And.intro hz0 (And.intro hz1 hz2)))
  have HT := Lib.hid (And.intro ht hsm)
  clear hi hz0 hz1 hz2 ht hsm
  go_enter Tryd.func11, Tryd.ntmps11
  go_wp2_with fail
  go_loopw [4, 3] (fun i v wr => ∃ k : Nat, k ≤ n ∧ i = .int .i64 k ∧ wr.ownsRow w.heap.size 5 1 v (framesOf (xs.take k)).length (Vb (framesOf (xs.take k))) ∧ Below w.heap.size w wr) (fun i _ _ => n - (intOf i).toNat)
  case atStart => exact ⟨0, by omega, rfl, World.ownsRow_nil _ _ _ _, Below.refl _ _⟩
  case round =>
    obtain ⟨k, hk, rfl, hown, hbel⟩ := hrel
    have hl := HT.out.1.len
    have hsk := frames_small_take xs HT.out.2 k (by omega)
    by_cases hkn : k < n
    · obtain ⟨g, o, rfl, hgp, hc⟩ := HT.out.1.cells (by omega)
      obtain ⟨A, m, cc, hcell, htx⟩ := hc k (xs[k]'(by omega)) (List.getElem?_eq_getElem _)
      have hgs : g < w.heap.size := World.block_lt_of_cell? w _ hcell
      have hft := frames_take (X := xs) (k := k) (List.getElem?_eq_getElem (by omega))
      have hm3 := HT.out.2 _ (List.getElem_mem (l := xs) (n := k) (by omega))
      generalize xs[k]'(by omega) = x at htx hft hm3
      have hml := htx.txt.len
      rw [hml] at hm3 hft
      have hcw := (hbel.cell (p := ⟨g, o + k, none⟩) hgs).trans hcell
      have HO := Lib.hid (And.intro hown (And.intro hbel (And.intro htx (And.intro hft hcell))))
      have HS := Lib.hid hsk
      clear hown hbel htx hft hc hcell hsk
      match A, HO with
      | none, HO =>
        obtain ⟨rfl, rfl⟩ := HO.out.2.2.1.nil rfl
        obtain rfl := List.eq_nil_of_length_eq_zero hml
        go_wp2_with (first
          | (at_builtin; refine wpList_append_own _ rfl (.tmp 17) (.tmp 29) 23 rfl w.heap.size 5 i0 (.int .u8 0) 1 1 Tryd.underlying23 HI.out.1 HI.out.2.1 HI.out.2.2.1 HI.out.2.2.2 rfl (by decide) u3 (framesOf (xs.take k)).length (Vb (framesOf (xs.take k))) rfl (HO.out.1.alloc _) ⟨wr.heap.size, 0, none⟩ 4 4 _ rfl rfl (new_row wr [_, _, _, _] 5) (four_one _ _ _ _) (by have := HS.out; unfold maxLen; omega) (by have := HS.out; omega) (by have := HO.out.2.1.size; simp; omega) ?_; intro v2 w2 ho2 hg2 _; have HB2 := Lib.hid ((HO.out.2.1.alloc HO.out.2.1.size _).grown hg2 (by have := HO.out.2.1.size; simp; omega) (fun q hq => own_ge HO.out.1 q hq)); have HA2 := Lib.hid ho2; have hcw2 := (HB2.out.cell (p := ⟨g, o + k, none⟩) hgs).trans HO.out.2.2.2.2; clear ho2 hg2)
          | (at_builtin; go_loud (refine wpList_append_own_none rfl (.tmp 31) (.tmp 35) 23 rfl w.heap.size 5 i0 1 Tryd.underlying23 HI.out.1 v2 _ _ rfl HA2.out rfl ?_)))
        go_roundw
        case rel =>
          refine ⟨k + 1, by omega, by go_num, ?_, HB2.out⟩
          have e : [Value.int .u8 0, .int .u8 0, .int .u8 0, .int .u8 0] = Vb (fr 0) := fr_small 0 (by omega)
          rw [HO.out.2.2.2.1, List.append_nil, List.length_append, Vb_append, ← e]
          exact HA2.out
        case measure => simp [intOf]; omega
      | some a, HO =>
        go_wp2_with (first
          | (at_builtin; refine wpList_append_own _ rfl (.tmp 17) (.tmp 29) 23 rfl w.heap.size 5 i0 (.int .u8 0) 1 1 Tryd.underlying23 HI.out.1 HI.out.2.1 HI.out.2.2.1 HI.out.2.2.2 rfl (by decide) u3 (framesOf (xs.take k)).length (Vb (framesOf (xs.take k))) rfl (HO.out.1.alloc _) ⟨wr.heap.size, 0, none⟩ 4 4 _ rfl rfl (new_row wr [_, _, _, _] 5) (four_one _ _ _ _) (by have := HS.out; unfold maxLen; omega) (by have := HS.out; omega) (by have := HO.out.2.1.size; simp; omega) ?_; intro v2 w2 ho2 hg2 _; have HB2 := Lib.hid ((HO.out.2.1.alloc HO.out.2.1.size _).grown hg2 (by have := HO.out.2.1.size; simp; omega) (fun q hq => own_ge HO.out.1 q hq)); have HA2 := Lib.hid ho2; have hcw2 := (HB2.out.cell (p := ⟨g, o + k, none⟩) hgs).trans HO.out.2.2.2.2; clear ho2 hg2)
          | (at_builtin; go_loud (refine wpList_append_own _ rfl (.tmp 31) (.tmp 35) 23 rfl w.heap.size 5 i0 (.int .u8 0) 1 1 Tryd.underlying23 HI.out.1 HI.out.2.1 HI.out.2.2.1 HI.out.2.2.2 rfl (by decide) v2 _ _ rfl HA2.out a m cc (Vb x) rfl (by rw [Vb_length]; omega) (txt_cells (HO.out.2.2.1.txt.below HB2.out (Nat.le_refl _))) (Vb_oneCell _) (by have := HS.out; unfold maxLen; omega) (by have := HS.out; omega) HB2.out.size ?_); intro v3 w3 ho3 hg3 _))
        go_roundw
        case rel =>
          refine ⟨k + 1, by omega, by go_num, ?_, HB2.out.grown hg3 HB2.out.size (fun q hq => own_ge HA2.out q hq)⟩
          rw [fr_small m hm3] at ho3
          rw [HO.out.2.2.2.1, List.length_append, List.length_append, Vb_append, Vb_append, hml]
          exact ho3
        case measure => simp [intOf]; omega
    · obtain rfl : k = n := by omega
      rw [List.take_of_length_le (by omega)] at hown
      go_wp2_with fail
      go_ret
      exact ⟨_, rfl, hown, hbel⟩

end Go.Proofs.YtkblpcegdfhmoaaDoor
