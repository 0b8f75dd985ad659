/-
  The laws' own helpers: a sector of one byte, bytes filled up to a sector, are two slices the same. Conditions: the slices' bytes lie at their addresses.
-/
import Derived.Test.YthphaidaknkedaaBLive
import Derived.Deep.QuietTactic
import Derived.BigQuiet
namespace Go.Proofs.Ythphaidaknkedaa
open Go.RowKit

/-- The bytes of a slice lie at its address (nil, empty or not). -/
def BytesAt (w : World) (A : Option Addr) (xs : List Int) : Prop := 0 < xs.length → ∃ ad, A = some ad ∧ ∀ j x, xs[j]? = some x → w.cell? (ad.add j) = some (.int .u8 x)

def SameRel (xs ys : List Int) (w : World) (k : Nat) (wr : World) : Prop := xs.take k = ys.take k ∧ ∃ q, wr = w.drewN q
theorem same_step {xs ys : List Int} {k : Nat} {x y : Int} (h : xs.take k = ys.take k) (hx : xs[k]? = some x) (hy : ys[k]? = some y) (e : x = y) : xs.take (k + 1) = ys.take (k + 1) := by
  rw [List.take_add_one, List.take_add_one, hx, hy, h, e]
theorem same_no {xs ys : List Int} {k : Nat} {x y : Int} (hx : xs[k]? = some x) (hy : ys[k]? = some y) (e : x ≠ y) : (xs == ys) = false := by
  rw [beq_eq_false_iff_ne]
  rintro rfl
  rw [hx] at hy
  injection hy with hy
  exact e hy
theorem same_yes {xs ys : List Int} {n : Nat} (h : xs.take n = ys.take n) (hx : xs.length = n) (hy : ys.length = n) : (xs == ys) = true := by
  rw [List.take_of_length_le (by omega), List.take_of_length_le (by omega)] at h
  simp [h]

set_option maxHeartbeats 1000000 in
theorem same_walk (w : World) (A A' : Option Addr) (n n' c c' : Nat) (xs ys : List Int) (hx : xs.length = n) (hy : ys.length = n') (hbig : n ≤ 9223372036854775807) (h : BytesAt w A xs) (h' : BytesAt w A' ys) :
    Calls Try.prog 16 #[.slice A n c, .slice A' n' c'] w fun e w' => e = .returned (.bool (xs == ys)) ∧ ∃ q, w.drewN q = w' := by
  by_cases hne : n = n'
  · subst hne
    have hd : ((n : Int) != n) = false := by simp
    go_enter Try.func16, Try.ntmps16
    go_wp2_with fail
    have HX := Lib.hid (And.intro hx hy)
    have HA := Lib.hid h
    have HA' := Lib.hid h'
    clear hx hy h h' hd
    go_loopw [5] (fun i wr => ∃ k : Nat, k ≤ n ∧ i = .int .i64 k ∧ SameRel xs ys w k wr) (fun i _ => n - (intOf i).toNat)
    case atStart => exact ⟨0, Nat.zero_le _, rfl, rfl, 0, rfl⟩
    case round =>
      obtain ⟨k, hk, rfl, hpre, q, rfl⟩ := hrel
      have HP := Lib.hid hpre
      clear hpre
      by_cases hlt : k < n
      · obtain ⟨ad, rfl, hc⟩ := HA.out (by have := HX.out.1; omega)
        obtain ⟨ad', rfl, hc'⟩ := HA'.out (by have := HX.out.2; omega)
        obtain ⟨x, hx⟩ : ∃ x, xs[k]? = some x := ⟨_, List.getElem?_eq_getElem (by have := HX.out.1; omega)⟩
        obtain ⟨y, hy⟩ : ∃ y, ys[k]? = some y := ⟨_, List.getElem?_eq_getElem (by have := HX.out.2; omega)⟩
        have e1 := hc k x hx
        have e2 := hc' k y hy
        have HK := Lib.hid (And.intro hx hy)
        clear hc hc' hx hy
        by_cases hxy : x = y
        · have hb : (x != y) = false := by simp [hxy]
          have HE := Lib.hid hxy
          clear hxy
          go_wp2_with fail
          go_quiet (fail)
          go_wp2_with fail
          go_roundw
          case rel => exact ⟨k + 1, by omega, by go_num, same_step HP.out HK.out.1 HK.out.2 HE.out, _, rfl⟩
          case measure => simp [intOf]; omega
        · have hb : (x != y) = true := by rw [bne_iff_ne]; exact hxy
          have HE := Lib.hid hxy
          clear hxy
          go_wp2_with fail
          go_quiet (fail)
          go_wp2_with fail
          go_ret
          exact ⟨by rw [same_no HK.out.1 HK.out.2 HE.out]; rfl, _, (World.drewN_drewN _ _ _).symm⟩
      · obtain rfl : k = n := by omega
        go_wp2_with fail
        go_ret
        exact ⟨by rw [same_yes HP.out HX.out.1 HX.out.2]; rfl, _, rfl⟩
  · have hd : ((n : Int) != n') = true := by rw [bne_iff_ne]; omega
    have hq : (xs == ys) = false := by
      rw [beq_eq_false_iff_ne]
      rintro rfl
      omega
    rw [hq]
    clear hne hq hx hy h h'
    go_enter Try.func16, Try.ntmps16
    go_wp2_with fail
    go_ret
    exact ⟨rfl, 0, rfl⟩

/-- Same, of two slices in blocks of their own. -/
theorem same_has (B L : Nat) (w : World) (v v' : Value) (N N' n : Nat) (xs ys : List Int) (b : Bool) (hx : xs.length = n) (hbig : n ≤ 1000000) (h : HasBytes N w v xs) (h' : HasBytes N' w v' ys) (hb : (xs == ys) = b) :
    Calls Try.prog 16 #[v, v'] w fun e w' => e = .returned (.bool b) ∧ Step B L w w' ∧ ∀ D s, Live B D L s w → Live B D L s w' := by
  obtain ⟨g, cap, rfl, _, hc⟩ := h.cells
  obtain ⟨g', cap', rfl, _, hc'⟩ := h'.cells
  subst hb
  refine (same_walk w _ _ _ _ cap cap' xs ys rfl rfl (by omega) (fun _ => ⟨_, rfl, fun j x hx => hc j _ (by rw [U_get, hx]; rfl)⟩) (fun _ => ⟨_, rfl, fun j x hx => hc' j _ (by rw [U_get, hx]; rfl)⟩)).mono ?_
  rintro e w' ⟨rfl, q, rfl⟩
  exact ⟨rfl, Step.drewN _ _ _ _, fun D s h => h.drewN q⟩

def Z64 : List Int := List.replicate 64 0
/-- The first k bytes are c, the others 0. -/
def AllTo (c : Int) (k : Nat) : List Int := List.replicate k c ++ List.replicate (64 - k) 0
def AllRel (N : Nat) (c : Int) (w : World) (k : Nat) (wr : World) : Prop := Blk wr N 5 (U (AllTo c k)) ∧ Below N w wr
theorem AllTo.step (c : Int) (k : Nat) (hk : k < 64) : (U (AllTo c k)).set k (.int .u8 c) = U (AllTo c (k + 1)) := by
  unfold AllTo U
  rw [← List.map_set]
  congr 1
  rw [List.set_append_right _ _ (by simp)]
  simp only [List.length_replicate, Nat.sub_self]
  obtain ⟨m, hm⟩ : ∃ m, 64 - k = m + 1 := ⟨63 - k, by omega⟩
  rw [hm, List.replicate_succ, List.set_cons_zero, show 64 - (k + 1) = m by omega, List.replicate_succ']
  simp

set_option maxRecDepth 100000 in
set_option maxHeartbeats 400000 in
theorem all_walk (w : World) (c : Int) : Calls Try.prog 24 #[.int .u8 c] w fun e w' => e = .returned (.slice (some ⟨w.heap.size, 0, none⟩) 64 64) ∧ Blk w' w.heap.size 5 (U (List.replicate 64 c)) ∧ Below w.heap.size w w' := by
  have hmk : (Instr.makeSlice 31 (.int .i64 64) (.int .i64 64)).run Try.prog w = .ok (.slice (some ⟨w.heap.size, 0, none⟩) 64 64) (w.alloc (.cells (U Z64).toArray 5)) := make_bytes w 64 (by omega) (by omega)
  have h0 : AllRel w.heap.size c w 0 (w.alloc (.cells (U Z64).toArray 5)) := ⟨Blk.new w _ _, (Below.refl _ w).alloc (Nat.le_refl _) _⟩
  have H0 := Lib.hid h0
  clear h0
  go_enter Try.func24, Try.ntmps24
  go_wp2_with fail
  go_loopw [4] (fun i wr => ∃ k : Nat, k ≤ 64 ∧ i = .int .i64 k ∧ AllRel w.heap.size c w k wr) (fun i _ => 64 - (intOf i).toNat)
  case atStart => exact ⟨0, Nat.zero_le _, rfl, H0.out⟩
  case round =>
    obtain ⟨k, hk, rfl, hrel⟩ := hrel
    have HR := Lib.hid hrel
    by_cases hlt : k < 64
    · have e1 : ∃ u, wr.cell? ⟨w.heap.size, k, none⟩ = some u := ⟨_, by rw [hrel.1.cell, List.getElem?_eq_getElem (by simp [U, AllTo]; omega)]⟩
      obtain ⟨u, e1⟩ := e1
      have f1 := hrel.1.frozen k
      clear hrel
      go_wp2_with fail
      go_roundw
      case rel => exact ⟨k + 1, by omega, by go_num, by rw [← AllTo.step c k hlt]; exact HR.out.1.set_ k _, HR.out.2.setCell (Nat.le_refl _) _⟩
      case measure => simp [intOf]; omega
    · obtain rfl : k = 64 := by omega
      clear hrel
      go_wp2_with fail
      go_ret
      exact ⟨rfl, by have := HR.out.1; simpa [AllTo] using this, HR.out.2⟩

/-- Bytes filled up, or cut, to a sector. -/
def full (xs : List Int) : List Int := xs.take 64 ++ List.replicate (64 - xs.length) 0
theorem full_length (xs : List Int) : (full xs).length = 64 := by simp [full]; omega
def FullTo (xs : List Int) (k : Nat) : List Int := xs.take k ++ List.replicate (64 - k) 0
def FullRel (N : Nat) (xs : List Int) (w : World) (k : Nat) (wr : World) : Prop := Blk wr N 5 (U (FullTo xs k)) ∧ Below N w wr
theorem FullTo.step (xs : List Int) (k : Nat) (x : Int) (hk : k < 64) (hx : xs[k]? = some x) : (U (FullTo xs k)).set k (.int .u8 x) = U (FullTo xs (k + 1)) := by
  have hl : k < xs.length := (List.getElem?_eq_some_iff.1 hx).1
  have ht : (xs.take k).length = k := by rw [List.length_take]; omega
  unfold FullTo U
  rw [← List.map_set]
  congr 1
  rw [List.set_append_right _ _ (by omega), ht, Nat.sub_self, List.take_add_one, hx]
  obtain ⟨m, hm⟩ : ∃ m, 64 - k = m + 1 := ⟨63 - k, by omega⟩
  rw [hm, List.replicate_succ, List.set_cons_zero, show 64 - (k + 1) = m by omega]
  simp
theorem FullTo.done (xs : List Int) (k : Nat) (h : k = xs.length ∧ k ≤ 64 ∨ k = 64 ∧ k ≤ xs.length) : FullTo xs k = full xs := by
  unfold FullTo full
  rcases h with ⟨rfl, h⟩ | ⟨rfl, h⟩
  · rw [List.take_of_length_le (Nat.le_refl _), List.take_of_length_le h]
  · rw [show 64 - 64 = 0 by omega, show 64 - xs.length = 0 by omega]

set_option maxRecDepth 100000 in
set_option maxHeartbeats 1000000 in
theorem full_walk (w : World) (A : Option Addr) (n c : Nat) (xs : List Int) (hn : xs.length = n) (hbig : n ≤ 9223372036854775807) (h : BytesAt w A xs) :
    Calls Try.prog 11 #[.slice A n c] w fun e w' => e = .returned (.slice (some ⟨w.heap.size, 0, none⟩) 64 64) ∧ Blk w' w.heap.size 5 (U (full xs)) ∧ Below w.heap.size w w' := by
  have hmk : (Instr.makeSlice 31 (.int .i64 64) (.int .i64 64)).run Try.prog w = .ok (.slice (some ⟨w.heap.size, 0, none⟩) 64 64) (w.alloc (.cells (U Z64).toArray 5)) := make_bytes w 64 (by omega) (by omega)
  have h0 : FullRel w.heap.size xs w 0 (w.alloc (.cells (U Z64).toArray 5)) := ⟨Blk.new w _ _, (Below.refl _ w).alloc (Nat.le_refl _) _⟩
  have H0 := Lib.hid h0
  have HN := Lib.hid hn
  have HA := Lib.hid h
  clear h0 hn h
  go_enter Try.func11, Try.ntmps11
  go_wp2_with fail
  go_loopw [4] (fun i wr => ∃ k : Nat, k ≤ 64 ∧ k ≤ n ∧ i = .int .i64 k ∧ FullRel w.heap.size xs w k wr) (fun i _ => 64 - (intOf i).toNat)
  case atStart => exact ⟨0, Nat.zero_le _, Nat.zero_le _, rfl, H0.out⟩
  case round =>
    obtain ⟨k, hk, hkn, rfl, hrel⟩ := hrel
    have HR := Lib.hid hrel
    by_cases hlt : k < n
    · by_cases hlt2 : k < 64
      · obtain ⟨ad, rfl, hc⟩ := HA.out (by have := HN.out; omega)
        obtain ⟨x, hx⟩ : ∃ x, xs[k]? = some x := ⟨_, List.getElem?_eq_getElem (by have := HN.out; omega)⟩
        have e0 := hc k x hx
        have hlt3 : (ad.add k).block < w.heap.size := World.block_lt_of_cell? w _ e0
        have e0' : wr.cell? (ad.add k) = some (.int .u8 x) := (hrel.2.cell hlt3).trans e0
        obtain ⟨u, e1⟩ : ∃ u, wr.cell? ⟨w.heap.size, k, none⟩ = some u := ⟨_, by rw [hrel.1.cell, List.getElem?_eq_getElem (by have := HN.out; simp [U, FullTo]; omega)]⟩
        have f1 := hrel.1.frozen k
        have HX := Lib.hid hx
        clear hrel hc hx e0 hlt3
        go_wp2_with fail
        go_roundw
        case rel => exact ⟨k + 1, by omega, by omega, by go_num, by rw [← FullTo.step xs k x hlt2 HX.out]; exact HR.out.1.set_ k _, HR.out.2.setCell (Nat.le_refl _) _⟩
        case measure => simp [intOf]; omega
      · obtain rfl : k = 64 := by omega
        clear hrel
        go_wp2_with fail
        go_ret
        exact ⟨rfl, by rw [← FullTo.done xs 64 (.inr ⟨rfl, by have := HN.out; omega⟩)]; exact HR.out.1, HR.out.2⟩
    · obtain rfl : k = n := by omega
      have hd : decide ((k : Int) < k) = false := by simp
      clear hrel
      go_wp2_with fail
      go_ret
      exact ⟨rfl, by rw [← FullTo.done xs k (.inl ⟨HN.out.symm, hk⟩)]; exact HR.out.1, HR.out.2⟩

end Go.Proofs.Ythphaidaknkedaa
