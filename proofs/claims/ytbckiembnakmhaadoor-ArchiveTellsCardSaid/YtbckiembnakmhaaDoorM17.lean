/-
  The memory words of the log: what a step of a disk leaves, slices of bytes, lists of writes, a disk at rest. Plain theorems on worlds; no condition.
-/
import Derived.Test.YtbckiembnakmhaaDoorM13
import Derived.Test.YtbckiembnakmhaaDoorM6
import Derived.RangeFuncOwn
import Derived.Deep.RegionHeld3
import Derived.Deep.QuietTactic
import Derived.BigQuiet
import Derived.IntWalk
import Derived.Outline
import Derived.Lib.Hide
import Derived.Test.YtbckiembnakmhaaDoorM7
import Derived.Test.YtbckiembnakmhaaDoorM11
import Derived.Test.YtbckiembnakmhaaDoorM12
section
set_option maxRecDepth 100000
set_option linter.unusedSimpArgs false
set_option linter.unusedVariables false
namespace Go.Proofs.YtbckiembnakmhaaDoor
open Go.RowKit

theorem blk_cells {w : World} {g : Nat} {t : TypeId} {cs : List Value} (h : Blk w g t cs) {o : Obj} (ho : w.heap[g]? = some o) : o.isCells = true := by
  unfold Blk at h
  rw [h] at ho
  cases ho
  rfl
theorem own_cells {w : World} {N e cells n : Nat} {v : Value} {ys : List Value} (h : w.ownsRow N e cells v n ys) {k : Nat} (hk : v.ownBlock = some k) {o : Obj} (ho : w.heap[k]? = some o) : o.isCells = true := by
  rcases h.2 with ⟨rfl, _⟩ | ⟨g, cap, cur, rfl, _, hb, _⟩
  · cases hk
  · cases hk
    rw [hb] at ho
    cases ho
    rfl
theorem drewN_below (w : World) (n : Nat) : Below w.heap.size w (w.drewN n) := ⟨rfl, rfl, rfl, Nat.le_refl _, fun _ _ => rfl⟩
theorem drew_below (w : World) : Below w.heap.size w w.drew := ⟨rfl, rfl, rfl, Nat.le_refl _, fun _ _ => rfl⟩
theorem new_below (w : World) (o : Obj) : Below w.heap.size w (w.alloc o) := (Below.refl _ _).alloc (Nat.le_refl _) _

theorem U_Vb (xs : List B8) : U (xs.map nb) = Vb xs := by simp [U, Vb]
theorem map_nb_inj {xs ys : List B8} (h : xs.map nb = ys.map nb) : xs = ys := (List.map_inj_right (fun a b hab => nb_inj hab)).1 h

/-- The kinds of blocks in which bytes lie. -/
def BK (t : TypeId) : Prop := t = 5 ∨ t = 40
theorem BK.ne {t k : TypeId} (h : BK t) (h1 : k ≠ 5) (h2 : k ≠ 40) : t ≠ k := by
  rcases h with rfl | rfl
  · exact fun e => h1 e.symm
  · exact fun e => h2 e.symm
/-- A slice of bytes: nil, or in a block of bytes that A allows. -/
def Bts (A : Nat → Prop) (w : World) (v : Value) (xs : List B8) : Prop :=
  (v = .slice none 0 0 ∧ xs = []) ∨ ∃ g o cap t cs, v = .slice (some ⟨g, o, none⟩) xs.length cap ∧ A g ∧ BK t ∧ Blk w g t cs ∧ (cs.drop o).take xs.length = Vb xs ∧ xs.length ≤ cap ∧ cap ≤ maxLen
section
variable {A : Nat → Prop} {w w' : World} {v : Value} {xs : List B8}
theorem Bts.empty (A : Nat → Prop) (w : World) : Bts A w (.slice none 0 0) [] := .inl ⟨rfl, rfl⟩
theorem Bts.below (h : Bts A w v xs) (hs : Below w.heap.size w w') : Bts A w' v xs := by
  rcases h with h | ⟨g, o, cap, t, cs, e, hA, hn, hb, ht, h1, h2⟩
  · exact .inl h
  · exact .inr ⟨g, o, cap, t, cs, e, hA, hn, hb.below hs hb.lt, ht, h1, h2⟩
theorem Bts.mono {A' : Nat → Prop} (h : Bts A w v xs) (hA : ∀ g, A g → g < w.heap.size → A' g) : Bts A' w v xs := by
  rcases h with h | ⟨g, o, cap, t, cs, e, ha, hn, hb, ht, h1, h2⟩
  · exact .inl h
  · exact .inr ⟨g, o, cap, t, cs, e, hA g ha hb.lt, hn, hb, ht, h1, h2⟩
theorem Bts.form (h : Bts A w v xs) : ∃ P c, v = .slice P xs.length c ∧ xs.length ≤ c ∧ c ≤ 9223372036854775807 := by
  rcases h with ⟨rfl, rfl⟩ | ⟨g, o, cap, t, cs, rfl, _, _, _, _, h1, h2⟩
  · exact ⟨Option.none, 0, rfl, Nat.le_refl _, by omega⟩
  · exact ⟨some ⟨g, o, Option.none⟩, cap, rfl, h1, by unfold maxLen at h2; omega⟩
theorem Bts.cells {P : Option Addr} {n c : Nat} (h : Bts A w (.slice P n c) xs) : xs.length = n ∧ (0 < n → ∃ g o, P = some ⟨g, o, Option.none⟩ ∧ A g ∧ g < w.heap.size ∧ ∀ j u, (Vb xs)[j]? = some u → w.cell? ⟨g, o + j, Option.none⟩ = some u) := by
  rcases h with ⟨e, rfl⟩ | ⟨g, o, cap, t, cs, e, hA, hn, hb, ht, h1, h2⟩
  · cases e
    exact ⟨rfl, fun h => absurd h (by omega)⟩
  · cases e
    refine ⟨rfl, fun _ => ⟨g, o, rfl, hA, hb.lt, fun j u hu => ?_⟩⟩
    rw [hb.cell]
    rw [← ht, List.getElem?_take] at hu
    split at hu
    · rw [List.getElem?_drop] at hu
      exact hu
    · cases hu
theorem Bts.txtN {P : Option Addr} {n c : Nat} (h : Bts A w (.slice P n c) xs) (p : Nat) (hp : ∀ g, A g → g < w.heap.size → g ≠ p) : TxtN w p P n c xs := by
  have hc := h.cells
  obtain ⟨P', c', e, h1, h2⟩ := h.form
  cases e
  refine ⟨⟨rfl, h1, by unfold maxLen; omega, fun hn => ?_⟩, fun hP => ?_⟩
  · obtain ⟨g, o, rfl, hA, hlt, hcell⟩ := hc.2 hn
    refine ⟨g, o, rfl, hp g hA hlt, fun j hj => hcell j _ ?_⟩
    rw [Vb_get, List.getD_eq_getElem?_getD, List.getElem?_eq_getElem hj]
    rfl
  · rcases h with ⟨e, rfl⟩ | ⟨g, o, cap, t, cs, e, _⟩
    · cases e; exact ⟨rfl, rfl⟩
    · cases e; cases hP
theorem Bts.txtNew {P : Option Addr} {n c : Nat} (h : Bts A w (.slice P n c) xs) : TxtN w w.heap.size P n c xs := h.txtN _ fun g _ hlt => by omega
theorem Bts.of_own {N : Nat} (h : w.ownsRow N 5 1 v xs.length (Vb xs)) : Bts (fun g => N ≤ g) w v xs := by
  rcases h.2 with ⟨rfl, hn⟩ | ⟨g, cap, cur, rfl, hg, hb, h1, h2, _, ht⟩
  · exact .inl ⟨rfl, List.eq_nil_of_length_eq_zero hn⟩
  · refine .inr ⟨g, 0, cap, _, cur.toList, rfl, hg, (.inl rfl), by simpa [Blk] using hb, ?_, h1, h2⟩
    rw [List.drop_zero]
    simpa [Vb_length] using ht
theorem Bts.of_has {N : Nat} {ys : List Int} (h : HasBytes N w v ys) (hy : ys = xs.map nb) (hc : ∀ g n c, v = .slice (some ⟨g, 0, Option.none⟩) n c → n ≤ c ∧ c ≤ maxLen) : Bts (fun g => N ≤ g) w v xs := by
  subst hy
  obtain ⟨g, cap, cs, rfl, hg, hb, ht⟩ := h
  have := hc _ _ _ rfl
  rw [List.length_map] at this ht
  refine .inr ⟨g, 0, cap, _, cs, by rw [List.length_map], hg, (.inl rfl), hb, ?_, this.1, this.2⟩
  rw [List.drop_zero, ht, U_Vb]
theorem Bts.of_blk {g o n t : Nat} {cs : List Value} (hb : Blk w g t cs) (ht : BK t) (hA : A g) (hx : (cs.drop o).take xs.length = Vb xs) (hn : xs.length = n) {c : Nat} (h1 : n ≤ c) (h2 : c ≤ maxLen) : Bts A w (.slice (some ⟨g, o, Option.none⟩) n c) xs := by
  subst hn
  exact .inr ⟨g, o, c, t, cs, rfl, hA, ht, hb, hx, h1, h2⟩
end

section
variable {A : Nat → Prop} {w w' : World} {v : Value} {ws : List (Int × List B8)}
end

def upd (S : Nat → List B8) (k : Nat) (b : List B8) : Nat → List B8 := fun i => if i = k then b else S i

section
variable {B D L n : Nat} {S : Nat → List B8} {wr fl : Nat} {w w' : World}
theorem seen_length {s : St} (hg : Good s) {k : Nat} (hk : k < s.n) : (seen s k).length = 64 := by
  unfold seen
  split
  · rename_i p hp
    have := List.mem_of_find?_eq_some hp
    exact (hg.sec p (by simpa using this)).2.2
  · rw [List.length_take, List.length_drop, hg.size]
    omega
end
end Go.Proofs.YtbckiembnakmhaaDoor
end

/-
  The small methods of the log's layout: numbers of sectors. Conditions: the disk has power that never goes; the journal leaves a data sector.
-/

section
set_option maxRecDepth 100000
set_option linter.unusedSimpArgs false
set_option linter.unusedVariables false
namespace Go.Proofs.YtbckiembnakmhaaDoor
open Go.RowKit

/-- A layout as a value. -/
abbrev lay_ (D j : Nat) : Value := .agg #[.pointer (some ⟨D, 0, none⟩), .int .i64 j]
theorem ret_int {k : IntKind} {a b : Int} (h : a = b) : Ending.returned (.int k a) = .returned (.int k b) := by rw [h]

section
variable {B D L n j : Nat} {S : Nat → List B8} {wr fl : Nat} {w : World}
end
end Go.Proofs.YtbckiembnakmhaaDoor
end

/-
  The log's bytes, plainly: numbers, notes, heads, transactions' digests. Plain definitions and theorems; no condition.
-/

section
set_option maxRecDepth 100000
set_option linter.unusedSimpArgs false
set_option linter.unusedVariables false
namespace Go.Proofs.YtbckiembnakmhaaDoor
open Go.RowKit

theorem take_snoc_ {α : Type} {ws : List α} {i : Nat} {p : α} (h : ws[i]? = some p) : ws.take (i + 1) = ws.take i ++ [p] := by
  obtain ⟨hi, rfl⟩ := List.getElem?_eq_some_iff.1 h
  exact List.take_succ_eq_append_getElem hi

/-- Byte j of a number of so many bytes, the highest first. -/
def bigAt (size n j : Nat) : B8 := BitVec.ofNat 8 (n / 2 ^ (8 * (size - 1 - j)))
/-- A number as so many bytes, the highest first. -/
def big (size n : Nat) : List B8 := (List.range size).map (bigAt size n)
theorem big_length (size n : Nat) : (big size n).length = size := by simp [big]
theorem big_get {size n j : Nat} (h : j < size) : (big size n)[j]? = some (bigAt size n j) := by simp [big, h]
/-- The same, of whose bytes the last k are laid. -/
def bigPart (size n k : Nat) : List B8 := (List.range size).map fun j => if size - k ≤ j then bigAt size n j else 0
theorem bigPart_zero (size n : Nat) : bigPart size n 0 = List.replicate size 0 := by
  unfold bigPart
  apply List.ext_getElem?
  intro i
  simp only [List.getElem?_map, List.getElem?_replicate]
  by_cases h : i < size
  · rw [List.getElem?_range h, if_pos h]
    simp only [Option.map_some, Nat.sub_zero]
    rw [if_neg (by omega)]
  · rw [List.getElem?_eq_none (by simp; omega), if_neg h]
    rfl
theorem bigPart_all (size n : Nat) : bigPart size n size = big size n := by
  unfold bigPart big
  apply List.map_congr_left
  intro j _
  rw [if_pos (by omega)]
theorem bigPart_set {size n k : Nat} (hk : k < size) : (Vb (bigPart size n k)).set (size - 1 - k) (.int .u8 (nb (bigAt size n (size - 1 - k)))) = Vb (bigPart size n (k + 1)) := by
  unfold Vb bigPart
  apply List.ext_getElem?
  intro i
  rw [List.getElem?_set]
  by_cases h : size - 1 - k = i
  · subst h
    rw [if_pos rfl, if_pos (by simp; omega)]
    simp only [List.getElem?_map]
    rw [List.getElem?_range (by omega)]
    simp only [Option.map_some]
    rw [if_pos (by omega)]
  · rw [if_neg h]
    simp only [List.getElem?_map]
    by_cases hi : i < size
    · rw [List.getElem?_range hi]
      simp only [Option.map_some]
      by_cases h2 : size - k ≤ i
      · rw [if_pos h2, if_pos (by omega)]
      · rw [if_neg h2, if_neg (by omega)]
    · rw [List.getElem?_eq_none (by simp; omega)]
      rfl
theorem bigPart_length (size n k : Nat) : (bigPart size n k).length = size := by simp [bigPart]
theorem fr_big (n : Nat) : fr n = big 4 n := by
  unfold fr big bigAt
  simp [List.range_succ]

/-- Bytes, and bytes 0 behind them, up to a sector. -/
def pad64 (xs : List B8) : List B8 := xs ++ List.replicate (64 - xs.length) 0
theorem pad64_length {xs : List B8} (h : xs.length ≤ 64) : (pad64 xs).length = 64 := by simp [pad64]; omega
/-- The texts that a transaction's digest is of. -/
def txtsOf (num : Nat) (ws : List (Int × List B8)) : List (List B8) := big 8 num :: big 4 ws.length :: ws.flatMap fun p => [big 4 p.1.toNat, p.2]
theorem txtsOf_snoc (num m : Nat) (ws : List (Int × List B8)) (p : Int × List B8) : big 8 num :: big 4 m :: (ws ++ [p]).flatMap (fun p => [big 4 p.1.toNat, p.2]) = (big 8 num :: big 4 m :: ws.flatMap fun p => [big 4 p.1.toNat, p.2]) ++ [big 4 p.1.toNat, p.2] := by
  simp
def digOf (ks : List B32) (num : Nat) (ws : List (Int × List B8)) : List B8 := sha ks (framesOf (txtsOf num ws))
theorem digOf_length (ks : List B32) (num : Nat) (ws : List (Int × List B8)) : (digOf ks num ws).length = 32 := sha_length _ _
def noteB (num place count no : Nat) (d : List B8) : List B8 := pad64 (big 8 num ++ (big 4 place ++ (big 4 count ++ (big 4 no ++ d))))
theorem noteB_length (num place count no : Nat) {d : List B8} (hd : d.length = 32) : (noteB num place count no d).length = 64 := by
  unfold noteB
  rw [pad64_length]
  simp [big_length, hd]
def headB (ks : List B32) (num : Nat) : List B8 := pad64 (big 8 num ++ sha ks (framesOf [big 8 num]))
theorem headB_length (ks : List B32) (num : Nat) : (headB ks num).length = 64 := by
  unfold headB
  rw [pad64_length]
  simp [big_length, sha_length]
end Go.Proofs.YtbckiembnakmhaaDoor
end

/-
  inBytes: a number as so many bytes. Condition: it isn't below 0.
-/

section
set_option maxRecDepth 100000
set_option linter.unusedSimpArgs false
set_option linter.unusedVariables false
namespace Go.Proofs.YtbckiembnakmhaaDoor
open Go.RowKit

theorem big_byte (n k : Nat) : (n : Int) / 2 ^ (8 * k) % 256 = nb (BitVec.ofNat 8 (n / 2 ^ (8 * k))) := by
  rw [nb_of]
  have : ((2 : Int) ^ (8 * k)) = ((2 ^ (8 * k) : Nat) : Int) := by simp
  rw [this, ← Int.natCast_ediv]
  simp

set_option maxHeartbeats 1000000 in
theorem inBytes_any (w : World) (n size : Nat) (hn : n ≤ 9223372036854775807) (hs : size ≤ 8) :
    Calls Tryd.prog 40 #[.int .i64 n, .int .i64 size] w fun e w' => e = .returned (.slice (some ⟨w.heap.size, 0, none⟩) size size) ∧ Blk w' w.heap.size 5 (Vb (big size n)) ∧ Below w.heap.size w w' := by
  have hmk := make_bytes w size (by omega) (by omega)
  have hz : U (List.replicate size 0) = Vb (bigPart size n 0) := by rw [bigPart_zero]; simp [U, Vb, nb]
  have hb := Blk.new w 5 (U (List.replicate size 0))
  have hw := new_below w (.cells (U (List.replicate size 0)).toArray 5)
  rw [Int.toNat_natCast] at hmk
  rw [hz] at hb hw hmk
  have H := Lib.hid (And.intro hb hw)
  clear hz hb hw
  go_enter Tryd.func40, Tryd.ntmps40
  go_wp2_with fail
  clear hmk
  go_loopw [12] (fun iv wx => ∃ k : Nat, k ≤ size ∧ iv = .int .i64 k ∧ Blk wx w.heap.size 5 (Vb (bigPart size n k)) ∧ Below w.heap.size w wx) (fun iv _ => size - (intOf iv).toNat)
  case atStart => exact ⟨0, Nat.zero_le _, rfl, H.out.1, H.out.2⟩
  case round =>
    clear H
    obtain ⟨k, hk, rfl, h1, h2⟩ := hrel
    have HR := Lib.hid (And.intro h1 h2)
    by_cases hlt : k < size
    · have c0 := h1.cell (size - 1 - k)
      have f0 := h1.frozen (size - 1 - k)
      rw [Vb_get, List.getElem?_eq_getElem (by rw [bigPart_length]; omega)] at c0
      clear h1 h2
      go_wp2_with fail
      go_roundw
      case rel =>
        refine ⟨k + 1, by omega, by go_num, ?_, HR.out.2.setCell (p := ⟨w.heap.size, size - 1 - k, none⟩) (Nat.le_refl _) _⟩
        rw [big_byte, show k = size - 1 - (size - 1 - k) by omega]
        have := HR.out.1.set_ (size - 1 - k) (.int .u8 (nb (bigAt size n (size - 1 - k))))
        rw [bigPart_set hlt] at this
        rw [show size - 1 - (size - 1 - k) = k by omega]
        simpa [bigAt, show size - 1 - (size - 1 - k) = k by omega] using this
      case measure => simp [intOf]; omega
    · obtain rfl : k = size := by omega
      clear h1 h2
      go_wp2_with fail
      go_ret
      refine ⟨rfl, ?_, HR.out.2⟩
      rw [← bigPart_all]
      exact HR.out.1
end Go.Proofs.YtbckiembnakmhaaDoor
end

/-
  The law's own examples of archives. Conditions: the variables that paths' calls read hold what they must.
-/

section
set_option linter.unusedSimpArgs false
set_option linter.unusedVariables false
set_option maxRecDepth 100000
namespace Go.Proofs.YtbckiembnakmhaaDoor
open Go.RowKit

theorem din_blk {w : World} {g t n : Nat} {d : List B8} (h : Blk w g t (Vb d)) (hl : d.length = n) (hn : n ≤ 9223372036854775807) : DIn w (some ⟨g, 0, none⟩) n n d := by
  refine ⟨hl, Nat.le_refl _, hn, (fun h => by cases h), fun _ => ⟨g, 0, rfl, h.lt, fun j u hu => ?_⟩⟩
  rw [h.cell, Nat.zero_add]
  exact hu
theorem marked_cell (w : World) (C : List Value) (t k l i : Nat) : (w.alloc (.cells C.toArray t (k, l))).cell? ⟨w.heap.size, i, none⟩ = C[i]? := by
  have := cell_of_row (w.alloc (.cells C.toArray t (k, l))) w.heap.size i C.toArray t (k, l) (heap_alloc_new w _)
  rw [this]
  simp
theorem DIn.bytesAt {w : World} {A : Option Addr} {n c : Nat} {d : List B8} (h : DIn w A n c d) : BytesAt w A (d.map nb) := by
  intro hn
  rw [List.length_map, h.len] at hn
  obtain ⟨g, o, rfl, _, hc⟩ := h.cells hn
  refine ⟨_, rfl, fun j x hx => ?_⟩
  rw [addr_add]
  refine hc j _ ?_
  rw [List.getElem?_map] at hx
  unfold Vb
  rw [List.getElem?_map]
  cases hb : d[j]? with
  | none => rw [hb] at hx; cases hx
  | some b => rw [hb] at hx; cases hx; rfl
theorem bmap_inj {xs ys : List B8} (h : xs.map nb = ys.map nb) : xs = ys := (List.map_inj_right (fun a b hab => nb_inj hab)).1 h
/-- The document's Same, of bytes. -/
theorem rsame_din {w : World} {A B : Option Addr} {n c m d : Nat} {xs ys : List B8} (h : DIn w A n c xs) (k : DIn w B m d ys) :
    Calls Tryd.prog 19 #[.slice A n c, .slice B m d] w fun e w' => e = .returned (.bool (decide (xs = ys))) ∧ Below w.heap.size w w' := by
  refine (same_walk w A B n m c d (xs.map nb) (ys.map nb) (by rw [List.length_map, h.len]) (by rw [List.length_map, k.len]) (by have := h.cap; have := h.big; omega) h.bytesAt k.bytesAt).mono ?_
  rintro e w' ⟨rfl, q, rfl⟩
  refine ⟨?_, pdrewN _ _⟩
  congr 2
  by_cases he : xs = ys
  · subst he; simp
  · rw [decide_eq_false he, beq_eq_false_iff_ne]
    exact fun e => he (bmap_inj e)
def crel : List Value := [.int .u8 67, .int .u8 82, .int .u8 69, .int .u8 76]
theorem crel_Vb : crel = Vb [67#8, 82#8, 69#8, 76#8] := by simp [crel, Vb, nb]
set_option maxHeartbeats 1000000 in
theorem write_nil12 (w : World) : Calls Tryd.prog 28 #[.slice none 0 0] w fun e w' => ∃ A c, e = .returned (.slice A 5 c) ∧ DIn w' A 5 c [67#8, 82#8, 69#8, 76#8, 0#8] ∧ Below w.heap.size w w' := by
  have hcs := conv_const
  have hz : big 1 0 = [0#8] := rfl
  have hb1 := pnew w (.cells #[.int .u8 67, .int .u8 82, .int .u8 69, .int .u8 76] 5 (4, 5))
  have HB := Lib.hid (inBytes_any (w.alloc (.cells #[.int .u8 67, .int .u8 82, .int .u8 69, .int .u8 76] 5 (4, 5))) 0 1 (by omega) (by omega))
  have HC : Hid (∀ (j : Nat) u, crel[j]? = some u → (w.alloc (.cells #[.int .u8 67, .int .u8 82, .int .u8 69, .int .u8 76] 5 (4, 5))).cell? ⟨w.heap.size, 0 + j, none⟩ = some u) := Lib.hid (fun j u hu => by rw [Nat.zero_add]; exact (marked_cell w crel _ 4 5 j).trans hu)
  have HW := Lib.hid hb1
  rw [hz] at HB
  clear hb1 hz
  go_enter Tryd.func28, Tryd.ntmps28
  go_wp2_with (first
    | (go_at_call 40; go_must (refine HB.out.mono ?_); rintro e w1 ⟨rfl, h1, h2⟩; have HQ : Hid (∀ (j : Nat) u, crel[j]? = some u → w1.cell? ⟨w.heap.size, 0 + j, none⟩ = some u) := Lib.hid (fun j u hu => pcell_below (HC.out j u hu) h2); have H1 : Hid (Blk w1 (w.heap.size + 1) 5 (Vb [0#8]) ∧ Below w.heap.size w w1) := Lib.hid ⟨by simpa only [World.size_alloc] using h1, HW.out.trans (h2.mono HW.out.size)⟩; clear h1 h2)
    | (refine wpList_app_full (n := 4) (A := some ⟨w.heap.size, 0, none⟩) rfl rfl Tryd.underlying28 byt_info rfl crel (Vb [0#8]) rfl rfl (fun _ => ⟨_, _, rfl, HQ.out⟩) rfl rfl (fun j u hu => by rw [Nat.zero_add]; exact (H1.out.1.cell j).trans hu) (Vb_oneCell _) (by decide) (by decide) (by decide) ?_; intro cap9 w9 k1 k2))
  have HF := Lib.hid (show DIn w9 (some ⟨w1.heap.size, 0, none⟩) 5 cap9 [67#8, 82#8, 69#8, 76#8, 0#8] ∧ Below w.heap.size w w9 from ⟨by
    rw [crel_Vb] at k1
    exact din_own (d := [67#8, 82#8, 69#8, 76#8, 0#8]) k1, H1.out.2.trans (k2.mono H1.out.2.size)⟩)
  clear k1 k2
  go_wp2_with fail
  go_loopw [3, 15] (fun u3 iv wr => u3 = .slice (some ⟨w1.heap.size, 0, none⟩) 5 cap9 ∧ iv = .int .i64 0 ∧ wr = w9) (fun _ _ _ => 0)
  case atStart => exact ⟨rfl, rfl, rfl⟩
  case round =>
    obtain ⟨rfl, rfl, rfl⟩ := hrel
    go_wp2_with fail
    go_ret
    exact ⟨some ⟨w1.heap.size, 0, none⟩, cap9, rfl, HF.out.1, HF.out.2⟩
theorem encode_nil12 (w : World) (hV : PV w) : Calls Tryd.prog 17 #[.slice none 0 0] w fun e w' => ∃ A c, e = .returned (.tuple #[.slice A 5 c, .int .i64 0]) ∧ DIn w' A 5 c [67#8, 82#8, 69#8, 76#8, 0#8] ∧ Below w.heap.size w w' := by
  have HC := Lib.hid (check_arch w hV none 0 0 [] [] (EIn.none w))
  have hz : chkE [] = (0, 0) := rfl
  rw [hz] at HC
  clear hz hV
  go_enter Tryd.func17, Tryd.ntmps17
  go_wp2_with fail
  refine HC.out.mono ?_
  rintro e w1 ⟨rfl, h1⟩
  have H1 := Lib.hid h1
  clear h1
  go_wp2_with fail
  refine (write_nil12 w1).mono ?_
  rintro e w2 ⟨A, c, rfl, h2, h3⟩
  have H2 := Lib.hid (And.intro h2 (H1.out.trans (h3.mono H1.out.size)))
  clear h2 h3
  go_wp2_with fail
  go_ret2
  exact ⟨A, c, rfl, H2.out.1, H2.out.2⟩
/-- The example's link. -/
def exLink : En := { path := [⟨#[120]⟩], kind := 2, mode := 511, data := [46#8, 46#8, 47#8, 121#8] }
theorem exLink_bad : chkE [exLink] = (0, 10) := by decide +kernel
theorem link_small : SmallE exLink := ⟨by decide, by decide +kernel, by decide⟩
theorem build_link (W : World) (g g2 c : Nat) : (Instr.build 30 #[(0, .slice (some ⟨g, 0, none⟩) 1 1), (1, .int .i64 2), (2, .int .i64 511), (3, .slice (some ⟨g2, 0, none⟩) 4 c)]).run Tryd.prog W = .ok (evV ⟨some ⟨g, 0, none⟩, 1, 1, 2, 511, some ⟨g2, 0, none⟩, 4, c⟩) W := by kernel_rfl
abbrev lnkV (n : Nat) : Ev := ⟨some ⟨n, 0, none⟩, 1, 1, 2, 511, some ⟨n + 1, 0, none⟩, 4, 4⟩
abbrev lnkW (w : World) : World := ((w.alloc (.cells #[.string ⟨#[120]⟩] 9)).alloc (.cells #[.int .u8 46, .int .u8 46, .int .u8 47, .int .u8 121] 5 (4, 5))).alloc (.cells #[.slice (some ⟨w.heap.size, 0, none⟩) 1 1, .int .i64 2, .int .i64 511, .slice (some ⟨w.heap.size + 1, 0, none⟩) 4 4] 30)
theorem ups_Vb : Vb exLink.data = [.int .u8 46, .int .u8 46, .int .u8 47, .int .u8 121] := by simp [exLink, Vb, nb]
theorem link_in (w : World) : EIn (lnkW w) (some ⟨w.heap.size + 1 + 1, 0, none⟩) 1 1 [lnkV w.heap.size] [exLink] ∧ Below w.heap.size w (lnkW w) := by
  have b1 := pnew w (.cells #[.string ⟨#[120]⟩] 9)
  have b2 := pnew (w.alloc (.cells #[.string ⟨#[120]⟩] 9)) (.cells #[.int .u8 46, .int .u8 46, .int .u8 47, .int .u8 121] 5 (4, 5))
  have b3 := pnew ((w.alloc (.cells #[.string ⟨#[120]⟩] 9)).alloc (.cells #[.int .u8 46, .int .u8 46, .int .u8 47, .int .u8 121] 5 (4, 5))) (.cells #[.slice (some ⟨w.heap.size, 0, none⟩) 1 1, .int .i64 2, .int .i64 511, .slice (some ⟨w.heap.size + 1, 0, none⟩) 4 4] 30)
  have hs : SIn (w.alloc (.cells #[.string ⟨#[120]⟩] 9)) (some ⟨w.heap.size, 0, none⟩) 1 1 exLink.path := sin_new (w := w) (t := 9) (p := exLink.path) (n := 1) (c := 1) (es := []) rfl (Nat.le_refl _) (by decide)
  have hd : DIn ((w.alloc (.cells #[.string ⟨#[120]⟩] 9)).alloc (.cells #[.int .u8 46, .int .u8 46, .int .u8 47, .int .u8 121] 5 (4, 5))) (some ⟨w.heap.size + 1, 0, none⟩) 4 4 exLink.data := by
    refine ⟨rfl, Nat.le_refl _, by omega, (fun h => by cases h), fun _ => ⟨_, _, rfl, by simp, fun j u hu => ?_⟩⟩
    rw [ups_Vb] at hu
    rw [Nat.zero_add]
    have := marked_cell (w.alloc (.cells #[.string ⟨#[120]⟩] 9)) [.int .u8 46, .int .u8 46, .int .u8 47, .int .u8 121] 5 4 5 j
    rw [World.size_alloc] at this
    exact this.trans hu
  have hk := Blk.new ((w.alloc (.cells #[.string ⟨#[120]⟩] 9)).alloc (.cells #[.int .u8 46, .int .u8 46, .int .u8 47, .int .u8 121] 5 (4, 5))) 30 (evC (lnkV w.heap.size))
  have hok : EvOk (lnkW w) (lnkV w.heap.size) exLink := ⟨(hs.below b2).below b3, rfl, rfl, hd.below b3, link_small⟩
  rw [World.size_alloc, World.size_alloc] at hk
  refine ⟨⟨rfl, rfl, Nat.le_refl _, by omega, (fun h => by cases h), fun _ => ⟨_, _, rfl, hk.lt, fun i x hx j u hu => ?_⟩, fun i x e hx he => ?_⟩, (b1.trans (b2.mono b1.size)).trans (b3.mono (Nat.le_trans b1.size b2.size))⟩
  · match i, hx with
    | 0, hx =>
      cases hx
      show (lnkW w).cell? ⟨w.heap.size + 1 + 1, 0 + 0 * 4 + j, none⟩ = some u
      rw [show 0 + 0 * 4 + j = j by omega]
      exact (hk.cell j).trans hu
    | i + 1, hx => simp at hx
  · match i, hx, he with
    | 0, hx, he => cases hx; cases he; exact hok
    | i + 1, hx, he => simp at hx
set_option maxHeartbeats 2000000 in
theorem known12_any (w : World) (hV : PV w) : Calls Tryd.prog 15 #[] w fun e w' => e = .returned (.bool true) ∧ Below w.heap.size w w' := by
  have hcs := conv_const
  have HE := Lib.hid (encode_nil12 w hV)
  have HV := Lib.hid hV
  clear hV
  go_enter Tryd.func15, Tryd.ntmps15
  go_wp2_with fail
  refine HE.out.mono ?_
  rintro e w1 ⟨A, c, rfl, h1, h2⟩
  have H1 := Lib.hid (And.intro h1 h2)
  clear h1 h2
  have hk : (convert 28 28 (.slice (some ⟨w1.heap.size + 1, 0, none⟩) 4 4)).run Tryd.prog ((w1.alloc (.cells #[.string ⟨#[120]⟩] 9)).alloc (.cells #[.int .u8 46, .int .u8 46, .int .u8 47, .int .u8 121] 5)) = .ok (.slice (some ⟨w1.heap.size + 1, 0, none⟩) 4 4) ((w1.alloc (.cells #[.string ⟨#[120]⟩] 9)).alloc (.cells #[.int .u8 46, .int .u8 46, .int .u8 47, .int .u8 121] 5 (4, 5))) := by
    have := conv_const (w1.alloc (.cells #[.string ⟨#[120]⟩] 9)) #[.int .u8 46, .int .u8 46, .int .u8 47, .int .u8 121] 4 4
    simp only [World.size_alloc] at this
    exact this
  clear hcs
  have HL := Lib.hid (link_in w1)
  have hc := check_arch (lnkW w1) ((HV.out.to H1.out.2).to HL.out.2) _ _ _ _ _ HL.out.1
  rw [exLink_bad] at hc
  have HC := Lib.hid hc
  clear hc
  go_wp2_with fail
  refine HC.out.mono ?_
  rintro e w2 ⟨rfl, h2⟩
  have H2 := Lib.hid (And.intro (H1.out.1.below (HL.out.2.trans (h2.mono HL.out.2.size))) (H1.out.2.trans ((HL.out.2.trans (h2.mono HL.out.2.size)).mono H1.out.2.size)))
  clear h2
  have hd : DIn (w2.alloc (.cells #[.int .u8 67, .int .u8 82, .int .u8 69, .int .u8 76, .int .u8 0] 5)) (some ⟨w2.heap.size, 0, none⟩) 5 5 [67#8, 82#8, 69#8, 76#8, 0#8] := by
    have hv : Vb [67#8, 82#8, 69#8, 76#8, 0#8] = [.int .u8 67, .int .u8 82, .int .u8 69, .int .u8 76, .int .u8 0] := by simp [Vb, nb]
    have := Blk.new w2 5 (Vb [67#8, 82#8, 69#8, 76#8, 0#8])
    rw [hv] at this
    exact din_blk (by rw [hv]; exact this) rfl (by omega)
  have HS := Lib.hid (rsame_din (H2.out.1.below (pnew _ _)) hd)
  clear hd
  go_wp2_with (go_at_call 19; go_must (refine HS.out.mono ?_); rintro e w3 ⟨rfl, h3⟩; have H3 := Lib.hid (H2.out.2.trans (((pnew _ _).trans (h3.mono (pnew _ _).size)).mono H2.out.2.size)); clear h3)
  go_ret
  exact ⟨rfl, H3.out⟩
end Go.Proofs.YtbckiembnakmhaaDoor
end
