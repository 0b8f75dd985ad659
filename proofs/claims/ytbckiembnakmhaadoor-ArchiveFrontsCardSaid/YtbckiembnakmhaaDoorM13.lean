/-
  The laws' own helpers: a sector of one byte, bytes filled up to a sector, are two slices the same. Conditions: the slices' bytes lie at their addresses.
-/
import Derived.Test.YtbckiembnakmhaaDoorM12
import Derived.Deep.QuietTactic
import Derived.BigQuiet
section
set_option maxRecDepth 100000
set_option linter.unusedSimpArgs false
set_option linter.unusedVariables false
namespace Go.Proofs.YtbckiembnakmhaaDoor
open Go.RowKit

/-- The bytes of a slice lie at its address (nil, empty or not). -/
def BytesAt (w : World) (A : Option Addr) (xs : List Int) : Prop := 0 < xs.length → ∃ ad, A = some ad ∧ ∀ j x, xs[j]? = some x → w.cell? (ad.add j) = some (.int .u8 x)

def SameRel (xs ys : List Int) (w : World) (k : Nat) (wr : World) : Prop := xs.take k = ys.take k ∧ ∃ q, wr = w.drewN q
theorem same_step {xs ys : List Int} {k : Nat} {x y : Int} (h : xs.take k = ys.take k) (hx : xs[k]? = some x) (hy : ys[k]? = some y) (e : x = y) : xs.take (k + 1) = ys.take (k + 1) := by
  rw [List.take_add_one, List.take_add_one, hx, hy, h, e]
theorem same_no {xs ys : List Int} {k : Nat} {x y : Int} (hx : xs[k]? = some x) (hy : ys[k]? = some y) (e : x ≠ y) : (xs == ys) = false := by
  rw [beq_eq_false_iff_ne]
  rintro rfl
  rw [hx] at hy
  injection hy with hy
  exact e hy
theorem same_yes {xs ys : List Int} {n : Nat} (h : xs.take n = ys.take n) (hx : xs.length = n) (hy : ys.length = n) : (xs == ys) = true := by
  rw [List.take_of_length_le (by omega), List.take_of_length_le (by omega)] at h
  simp [h]

set_option maxHeartbeats 1000000 in
theorem same_walk (w : World) (A A' : Option Addr) (n n' c c' : Nat) (xs ys : List Int) (hx : xs.length = n) (hy : ys.length = n') (hbig : n ≤ 9223372036854775807) (h : BytesAt w A xs) (h' : BytesAt w A' ys) :
    Calls Tryd.prog 19 #[.slice A n c, .slice A' n' c'] w fun e w' => e = .returned (.bool (xs == ys)) ∧ ∃ q, w.drewN q = w' := by
  by_cases hne : n = n'
  · subst hne
    have hd : ((n : Int) != n) = false := by simp
    go_enter Tryd.func19, Tryd.ntmps19
    go_wp2_with fail
    have HX := Lib.hid (And.intro hx hy)
    have HA := Lib.hid h
    have HA' := Lib.hid h'
    clear hx hy h h' hd
    go_loopw [5] (fun i wr => ∃ k : Nat, k ≤ n ∧ i = .int .i64 k ∧ SameRel xs ys w k wr) (fun i _ => n - (intOf i).toNat)
    case atStart => exact ⟨0, Nat.zero_le _, rfl, rfl, 0, rfl⟩
    case round =>
      obtain ⟨k, hk, rfl, hpre, q, rfl⟩ := hrel
      have HP := Lib.hid hpre
      clear hpre
      by_cases hlt : k < n
      · obtain ⟨ad, rfl, hc⟩ := HA.out (by have := HX.out.1; omega)
        obtain ⟨ad', rfl, hc'⟩ := HA'.out (by have := HX.out.2; omega)
        obtain ⟨x, hx⟩ : ∃ x, xs[k]? = some x := ⟨_, List.getElem?_eq_getElem (by have := HX.out.1; omega)⟩
        obtain ⟨y, hy⟩ : ∃ y, ys[k]? = some y := ⟨_, List.getElem?_eq_getElem (by have := HX.out.2; omega)⟩
        have e1 := hc k x hx
        have e2 := hc' k y hy
        have HK := Lib.hid (And.intro hx hy)
        clear hc hc' hx hy
        by_cases hxy : x = y
        · have hb : (x != y) = false := by simp [hxy]
          have HE := Lib.hid hxy
          clear hxy
          go_wp2_with fail
          go_quiet (fail)
          go_wp2_with fail
          go_roundw
          case rel => exact ⟨k + 1, by omega, by go_num, same_step HP.out HK.out.1 HK.out.2 HE.out, _, rfl⟩
          case measure => simp [intOf]; omega
        · have hb : (x != y) = true := by rw [bne_iff_ne]; exact hxy
          have HE := Lib.hid hxy
          clear hxy
          go_wp2_with fail
          go_quiet (fail)
          go_wp2_with fail
          go_ret
          exact ⟨by rw [same_no HK.out.1 HK.out.2 HE.out]; rfl, _, (World.drewN_drewN _ _ _).symm⟩
      · obtain rfl : k = n := by omega
        go_wp2_with fail
        go_ret
        exact ⟨by rw [same_yes HP.out HX.out.1 HX.out.2]; rfl, _, rfl⟩
  · have hd : ((n : Int) != n') = true := by rw [bne_iff_ne]; omega
    have hq : (xs == ys) = false := by
      rw [beq_eq_false_iff_ne]
      rintro rfl
      omega
    rw [hq]
    clear hne hq hx hy h h'
    go_enter Tryd.func19, Tryd.ntmps19
    go_wp2_with fail
    go_ret
    exact ⟨rfl, 0, rfl⟩

def Z64 : List Int := List.replicate 64 0
/-- The first k bytes are c, the others 0. -/
def AllTo (c : Int) (k : Nat) : List Int := List.replicate k c ++ List.replicate (64 - k) 0
def AllRel (N : Nat) (c : Int) (w : World) (k : Nat) (wr : World) : Prop := Blk wr N 5 (U (AllTo c k)) ∧ Below N w wr
theorem AllTo.step (c : Int) (k : Nat) (hk : k < 64) : (U (AllTo c k)).set k (.int .u8 c) = U (AllTo c (k + 1)) := by
  unfold AllTo U
  rw [← List.map_set]
  congr 1
  rw [List.set_append_right _ _ (by simp)]
  simp only [List.length_replicate, Nat.sub_self]
  obtain ⟨m, hm⟩ : ∃ m, 64 - k = m + 1 := ⟨63 - k, by omega⟩
  rw [hm, List.replicate_succ, List.set_cons_zero, show 64 - (k + 1) = m by omega, List.replicate_succ']
  simp

/-- Bytes filled up, or cut, to a sector. -/
def full (xs : List Int) : List Int := xs.take 64 ++ List.replicate (64 - xs.length) 0
theorem full_length (xs : List Int) : (full xs).length = 64 := by simp [full]; omega
def FullTo (xs : List Int) (k : Nat) : List Int := xs.take k ++ List.replicate (64 - k) 0
def FullRel (N : Nat) (xs : List Int) (w : World) (k : Nat) (wr : World) : Prop := Blk wr N 5 (U (FullTo xs k)) ∧ Below N w wr
theorem FullTo.step (xs : List Int) (k : Nat) (x : Int) (hk : k < 64) (hx : xs[k]? = some x) : (U (FullTo xs k)).set k (.int .u8 x) = U (FullTo xs (k + 1)) := by
  have hl : k < xs.length := (List.getElem?_eq_some_iff.1 hx).1
  have ht : (xs.take k).length = k := by rw [List.length_take]; omega
  unfold FullTo U
  rw [← List.map_set]
  congr 1
  rw [List.set_append_right _ _ (by omega), ht, Nat.sub_self, List.take_add_one, hx]
  obtain ⟨m, hm⟩ : ∃ m, 64 - k = m + 1 := ⟨63 - k, by omega⟩
  rw [hm, List.replicate_succ, List.set_cons_zero, show 64 - (k + 1) = m by omega]
  simp
theorem FullTo.done (xs : List Int) (k : Nat) (h : k = xs.length ∧ k ≤ 64 ∨ k = 64 ∧ k ≤ xs.length) : FullTo xs k = full xs := by
  unfold FullTo full
  rcases h with ⟨rfl, h⟩ | ⟨rfl, h⟩
  · rw [List.take_of_length_le (Nat.le_refl _), List.take_of_length_le h]
  · rw [show 64 - 64 = 0 by omega, show 64 - xs.length = 0 by omega]

end Go.Proofs.YtbckiembnakmhaaDoor
end

/-
  What is read of a sector, behind a write, a flush and a crash that keeps all: plain theorems on states. Conditions: the state is good.
-/

section
set_option maxRecDepth 100000
set_option linter.unusedSimpArgs false
set_option linter.unusedVariables false
namespace Go.Proofs.YtbckiembnakmhaaDoor
open Go.RowKit

def sec (l : List Int) (j : Nat) : List Int := (l.drop (64 * j)).take 64
theorem sec_putS {l bs : List Int} {n k j : Nat} (hl : l.length = 64 * n) (hk : k < n) (hj : j < n) (hb : bs.length = 64) : sec (putS l k bs) j = if j = k then bs else sec l j := by
  apply List.ext_getElem?
  intro i
  unfold sec putS
  by_cases hi : i < 64
  · rw [List.getElem?_take_of_lt hi, List.getElem?_drop]
    by_cases hjk : j = k
    · subst hjk
      rw [if_pos rfl, List.append_assoc, List.getElem?_append_right (by simp; omega), List.getElem?_append_left (by simp; omega)]
      congr 1
      simp
      omega
    · rw [if_neg hjk, List.getElem?_take_of_lt hi, List.getElem?_drop]
      by_cases hlt : j < k
      · rw [List.append_assoc, List.getElem?_append_left (by simp; omega), List.getElem?_take_of_lt (by omega)]
      · rw [List.getElem?_append_right (by simp; omega), List.getElem?_drop]
        congr 1
        simp
        omega
  · rw [List.getElem?_take_eq_none (by omega)]
    by_cases hjk : j = k
    · rw [if_pos hjk, List.getElem?_eq_none (by omega)]
    · rw [if_neg hjk, List.getElem?_take_eq_none (by omega)]

theorem sec_layAll {n j : Nat} (hj : j < n) : ∀ (rs : List (Int × List Int)) (l : List Int), l.length = 64 * n → (∀ p ∈ rs, 0 ≤ p.1 ∧ p.1 < n ∧ p.2.length = 64) →
    sec (layAll l rs.reverse) j = match rs.find? (fun p => p.1 == (j : Int)) with | some p => p.2 | none => sec l j
  | [], l, _, _ => rfl
  | p :: rs, l, hl, hp => by
    have hpp := hp p (by simp)
    rw [List.reverse_cons, layAll_snoc, sec_putS (n := n) (layAll_length _ _ hl (fun q hq => hp q (by simp at hq; simp [hq]))) (by omega) hj hpp.2.2, sec_layAll hj rs l hl (fun q hq => hp q (by simp [hq])), List.find?_cons]
    by_cases h : p.1 = (j : Int)
    · have hb : (p.1 == (j : Int)) = true := by simp [h]
      rw [if_pos (by omega), hb]
    · have hb : (p.1 == (j : Int)) = false := by simpa using h
      rw [if_neg (by omega), hb]

theorem seen_sec {s : St} (hg : Good s) {j : Nat} (hj : j < s.n) : seen s j = sec (layAll s.laid s.waits) j := by
  have := sec_layAll hj s.waits.reverse s.laid hg.size (fun p hp => hg.sec p (by simpa using hp))
  rw [List.reverse_reverse] at this
  rw [this]
  rfl
theorem seen_write {s : St} (hg : Good s) {no j : Nat} {bs : List Int} (hno : no < s.n) (hb : bs.length = 64) (hj : j < s.n) {s' : St} (hg' : Good s') (hn : s'.n = s.n) (hl : s'.laid = s.laid) (hw : s'.waits = s.waits ++ [((no : Int), bs)]) :
    seen s' j = if j = no then bs else seen s j := by
  rw [seen_sec hg' (by omega), seen_sec hg hj, hl, hw, layAll_snoc, sec_putS (n := s.n) (layAll_length _ _ hg.size hg.sec) (by simpa using hno) hj hb]
  rfl
theorem seen_laid {s : St} (hg : Good s) {j : Nat} (hj : j < s.n) {s' : St} (hg' : Good s') (hn : s'.n = s.n) (hl : s'.laid = layAll s.laid s.waits) (hw : s'.waits = []) : seen s' j = seen s j := by
  rw [seen_sec hg' (by omega), seen_sec hg hj, hl, hw]
  rfl
/-- The numbers 0 to m - 1. -/
def upTo (m : Nat) : List Int := (List.range m).map fun (i : Nat) => (i : Int)
theorem upTo_succ (m : Nat) : upTo (m + 1) = upTo m ++ [(m : Int)] := by simp [upTo, List.range_succ]
theorem upTo_length (m : Nat) : (upTo m).length = m := by simp [upTo]
theorem kept_all (ws : List (Int × List Int)) : kept (upTo ws.length) ws = ws := by
  unfold kept
  have : (ws.zipIdx.filter fun x => decide ((x.2 : Int) ∈ upTo ws.length)) = ws.zipIdx := by
    rw [List.filter_eq_self]
    intro x hx
    have := (List.mem_zipIdx' hx).1
    simp [upTo]
    exact ⟨x.2, this, rfl⟩
  rw [this]
  simp

end Go.Proofs.YtbckiembnakmhaaDoor
end
