/-
  The memory words of the log: what a step of a disk leaves, slices of bytes, lists of writes, a disk at rest. Plain theorems on worlds; no condition.
-/
import Derived.Test.YtlpljedacohngaaGreatDoorM17
import Derived.Test.YtlpljedacohngaaGreatDoorM6
import Derived.RangeFuncOwn
import Derived.Deep.RegionHeld3
import Derived.Deep.QuietTactic
import Derived.BigQuiet
import Derived.IntWalk
import Derived.Outline
import Derived.Lib.Hide
import Derived.Test.YtlpljedacohngaaGreatDoorM7
import Derived.Test.YtlpljedacohngaaGreatDoorM16
import Derived.Test.YtlpljedacohngaaGreatDoorM15
section
set_option maxRecDepth 100000
set_option linter.unusedSimpArgs false
set_option linter.unusedVariables false
namespace Go.Proofs.YtlpljedacohngaaGreatDoor
open Go.RowKit

theorem blk_cells {w : World} {g : Nat} {t : TypeId} {cs : List Value} (h : Blk w g t cs) {o : Obj} (ho : w.heap[g]? = some o) : o.isCells = true := by
  unfold Blk at h
  rw [h] at ho
  cases ho
  rfl
theorem own_cells {w : World} {N e cells n : Nat} {v : Value} {ys : List Value} (h : w.ownsRow N e cells v n ys) {k : Nat} (hk : v.ownBlock = some k) {o : Obj} (ho : w.heap[k]? = some o) : o.isCells = true := by
  rcases h.2 with ⟨rfl, _⟩ | ⟨g, cap, cur, rfl, _, hb, _⟩
  · cases hk
  · cases hk
    rw [hb] at ho
    cases ho
    rfl
theorem drewN_below (w : World) (n : Nat) : Below w.heap.size w (w.drewN n) := ⟨rfl, rfl, rfl, Nat.le_refl _, fun _ _ => rfl⟩
theorem drew_below (w : World) : Below w.heap.size w w.drew := ⟨rfl, rfl, rfl, Nat.le_refl _, fun _ _ => rfl⟩
theorem new_below (w : World) (o : Obj) : Below w.heap.size w (w.alloc o) := (Below.refl _ _).alloc (Nat.le_refl _) _

theorem U_Vb (xs : List B8) : U (xs.map nb) = Vb xs := by simp [U, Vb]
theorem map_nb_inj {xs ys : List B8} (h : xs.map nb = ys.map nb) : xs = ys := (List.map_inj_right (fun a b hab => nb_inj hab)).1 h

/-- The kinds of blocks in which bytes lie. -/
def BK (t : TypeId) : Prop := t = 5 ∨ t = 74
theorem BK.ne {t k : TypeId} (h : BK t) (h1 : k ≠ 5) (h2 : k ≠ 74) : t ≠ k := by
  rcases h with rfl | rfl
  · exact fun e => h1 e.symm
  · exact fun e => h2 e.symm
/-- A slice of bytes: nil, or in a block of bytes that A allows. -/
def Bts (A : Nat → Prop) (w : World) (v : Value) (xs : List B8) : Prop :=
  (v = .slice none 0 0 ∧ xs = []) ∨ ∃ g o cap t cs, v = .slice (some ⟨g, o, none⟩) xs.length cap ∧ A g ∧ BK t ∧ Blk w g t cs ∧ (cs.drop o).take xs.length = Vb xs ∧ xs.length ≤ cap ∧ cap ≤ maxLen
section
variable {A : Nat → Prop} {w w' : World} {v : Value} {xs : List B8}
theorem Bts.empty (A : Nat → Prop) (w : World) : Bts A w (.slice none 0 0) [] := .inl ⟨rfl, rfl⟩
theorem Bts.below (h : Bts A w v xs) (hs : Below w.heap.size w w') : Bts A w' v xs := by
  rcases h with h | ⟨g, o, cap, t, cs, e, hA, hn, hb, ht, h1, h2⟩
  · exact .inl h
  · exact .inr ⟨g, o, cap, t, cs, e, hA, hn, hb.below hs hb.lt, ht, h1, h2⟩
theorem Bts.mono {A' : Nat → Prop} (h : Bts A w v xs) (hA : ∀ g, A g → g < w.heap.size → A' g) : Bts A' w v xs := by
  rcases h with h | ⟨g, o, cap, t, cs, e, ha, hn, hb, ht, h1, h2⟩
  · exact .inl h
  · exact .inr ⟨g, o, cap, t, cs, e, hA g ha hb.lt, hn, hb, ht, h1, h2⟩
theorem Bts.form (h : Bts A w v xs) : ∃ P c, v = .slice P xs.length c ∧ xs.length ≤ c ∧ c ≤ 9223372036854775807 := by
  rcases h with ⟨rfl, rfl⟩ | ⟨g, o, cap, t, cs, rfl, _, _, _, _, h1, h2⟩
  · exact ⟨Option.none, 0, rfl, Nat.le_refl _, by omega⟩
  · exact ⟨some ⟨g, o, Option.none⟩, cap, rfl, h1, by unfold maxLen at h2; omega⟩
theorem Bts.cells {P : Option Addr} {n c : Nat} (h : Bts A w (.slice P n c) xs) : xs.length = n ∧ (0 < n → ∃ g o, P = some ⟨g, o, Option.none⟩ ∧ A g ∧ g < w.heap.size ∧ ∀ j u, (Vb xs)[j]? = some u → w.cell? ⟨g, o + j, Option.none⟩ = some u) := by
  rcases h with ⟨e, rfl⟩ | ⟨g, o, cap, t, cs, e, hA, hn, hb, ht, h1, h2⟩
  · cases e
    exact ⟨rfl, fun h => absurd h (by omega)⟩
  · cases e
    refine ⟨rfl, fun _ => ⟨g, o, rfl, hA, hb.lt, fun j u hu => ?_⟩⟩
    rw [hb.cell]
    rw [← ht, List.getElem?_take] at hu
    split at hu
    · rw [List.getElem?_drop] at hu
      exact hu
    · cases hu
theorem Bts.txtN {P : Option Addr} {n c : Nat} (h : Bts A w (.slice P n c) xs) (p : Nat) (hp : ∀ g, A g → g < w.heap.size → g ≠ p) : TxtN w p P n c xs := by
  have hc := h.cells
  obtain ⟨P', c', e, h1, h2⟩ := h.form
  cases e
  refine ⟨⟨rfl, h1, by unfold maxLen; omega, fun hn => ?_⟩, fun hP => ?_⟩
  · obtain ⟨g, o, rfl, hA, hlt, hcell⟩ := hc.2 hn
    refine ⟨g, o, rfl, hp g hA hlt, fun j hj => hcell j _ ?_⟩
    rw [Vb_get, List.getD_eq_getElem?_getD, List.getElem?_eq_getElem hj]
    rfl
  · rcases h with ⟨e, rfl⟩ | ⟨g, o, cap, t, cs, e, _⟩
    · cases e; exact ⟨rfl, rfl⟩
    · cases e; cases hP
theorem Bts.txtNew {P : Option Addr} {n c : Nat} (h : Bts A w (.slice P n c) xs) : TxtN w w.heap.size P n c xs := h.txtN _ fun g _ hlt => by omega
theorem Bts.of_own {N : Nat} (h : w.ownsRow N 5 1 v xs.length (Vb xs)) : Bts (fun g => N ≤ g) w v xs := by
  rcases h.2 with ⟨rfl, hn⟩ | ⟨g, cap, cur, rfl, hg, hb, h1, h2, _, ht⟩
  · exact .inl ⟨rfl, List.eq_nil_of_length_eq_zero hn⟩
  · refine .inr ⟨g, 0, cap, _, cur.toList, rfl, hg, (.inl rfl), by simpa [Blk] using hb, ?_, h1, h2⟩
    rw [List.drop_zero]
    simpa [Vb_length] using ht
theorem Bts.of_has {N : Nat} {ys : List Int} (h : HasBytes N w v ys) (hy : ys = xs.map nb) (hc : ∀ g n c, v = .slice (some ⟨g, 0, Option.none⟩) n c → n ≤ c ∧ c ≤ maxLen) : Bts (fun g => N ≤ g) w v xs := by
  subst hy
  obtain ⟨g, cap, cs, rfl, hg, hb, ht⟩ := h
  have := hc _ _ _ rfl
  rw [List.length_map] at this ht
  refine .inr ⟨g, 0, cap, _, cs, by rw [List.length_map], hg, (.inl rfl), hb, ?_, this.1, this.2⟩
  rw [List.drop_zero, ht, U_Vb]
theorem Bts.of_blk {g o n t : Nat} {cs : List Value} (hb : Blk w g t cs) (ht : BK t) (hA : A g) (hx : (cs.drop o).take xs.length = Vb xs) (hn : xs.length = n) {c : Nat} (h1 : n ≤ c) (h2 : c ≤ maxLen) : Bts A w (.slice (some ⟨g, o, Option.none⟩) n c) xs := by
  subst hn
  exact .inr ⟨g, o, c, t, cs, rfl, hA, ht, hb, hx, h1, h2⟩
end

section
variable {A : Nat → Prop} {w w' : World} {v : Value} {ws : List (Int × List B8)}
end

def upd (S : Nat → List B8) (k : Nat) (b : List B8) : Nat → List B8 := fun i => if i = k then b else S i

section
variable {B D L n : Nat} {S : Nat → List B8} {wr fl : Nat} {w w' : World}
theorem seen_length {s : St} (hg : Good s) {k : Nat} (hk : k < s.n) : (seen s k).length = 64 := by
  unfold seen
  split
  · rename_i p hp
    have := List.mem_of_find?_eq_some hp
    exact (hg.sec p (by simpa using this)).2.2
  · rw [List.length_take, List.length_drop, hg.size]
    omega
end
end Go.Proofs.YtlpljedacohngaaGreatDoor
end

/-
  The small methods of the log's layout: numbers of sectors. Conditions: the disk has power that never goes; the journal leaves a data sector.
-/

section
set_option maxRecDepth 100000
set_option linter.unusedSimpArgs false
set_option linter.unusedVariables false
namespace Go.Proofs.YtlpljedacohngaaGreatDoor
open Go.RowKit

/-- A layout as a value. -/
abbrev lay_ (D j : Nat) : Value := .agg #[.pointer (some ⟨D, 0, none⟩), .int .i64 j]
theorem ret_int {k : IntKind} {a b : Int} (h : a = b) : Ending.returned (.int k a) = .returned (.int k b) := by rw [h]

section
variable {B D L n j : Nat} {S : Nat → List B8} {wr fl : Nat} {w : World}
end
end Go.Proofs.YtlpljedacohngaaGreatDoor
end

/-
  The log's bytes, plainly: numbers, notes, heads, transactions' digests. Plain definitions and theorems; no condition.
-/

section
set_option maxRecDepth 100000
set_option linter.unusedSimpArgs false
set_option linter.unusedVariables false
namespace Go.Proofs.YtlpljedacohngaaGreatDoor
open Go.RowKit

theorem take_snoc_ {α : Type} {ws : List α} {i : Nat} {p : α} (h : ws[i]? = some p) : ws.take (i + 1) = ws.take i ++ [p] := by
  obtain ⟨hi, rfl⟩ := List.getElem?_eq_some_iff.1 h
  exact List.take_succ_eq_append_getElem hi

/-- Byte j of a number of so many bytes, the highest first. -/
def bigAt (size n j : Nat) : B8 := BitVec.ofNat 8 (n / 2 ^ (8 * (size - 1 - j)))
/-- A number as so many bytes, the highest first. -/
def big (size n : Nat) : List B8 := (List.range size).map (bigAt size n)
theorem big_length (size n : Nat) : (big size n).length = size := by simp [big]
theorem big_get {size n j : Nat} (h : j < size) : (big size n)[j]? = some (bigAt size n j) := by simp [big, h]
/-- The same, of whose bytes the last k are laid. -/
def bigPart (size n k : Nat) : List B8 := (List.range size).map fun j => if size - k ≤ j then bigAt size n j else 0
theorem bigPart_zero (size n : Nat) : bigPart size n 0 = List.replicate size 0 := by
  unfold bigPart
  apply List.ext_getElem?
  intro i
  simp only [List.getElem?_map, List.getElem?_replicate]
  by_cases h : i < size
  · rw [List.getElem?_range h, if_pos h]
    simp only [Option.map_some, Nat.sub_zero]
    rw [if_neg (by omega)]
  · rw [List.getElem?_eq_none (by simp; omega), if_neg h]
    rfl
theorem bigPart_all (size n : Nat) : bigPart size n size = big size n := by
  unfold bigPart big
  apply List.map_congr_left
  intro j _
  rw [if_pos (by omega)]
theorem bigPart_set {size n k : Nat} (hk : k < size) : (Vb (bigPart size n k)).set (size - 1 - k) (.int .u8 (nb (bigAt size n (size - 1 - k)))) = Vb (bigPart size n (k + 1)) := by
  unfold Vb bigPart
  apply List.ext_getElem?
  intro i
  rw [List.getElem?_set]
  by_cases h : size - 1 - k = i
  · subst h
    rw [if_pos rfl, if_pos (by simp; omega)]
    simp only [List.getElem?_map]
    rw [List.getElem?_range (by omega)]
    simp only [Option.map_some]
    rw [if_pos (by omega)]
  · rw [if_neg h]
    simp only [List.getElem?_map]
    by_cases hi : i < size
    · rw [List.getElem?_range hi]
      simp only [Option.map_some]
      by_cases h2 : size - k ≤ i
      · rw [if_pos h2, if_pos (by omega)]
      · rw [if_neg h2, if_neg (by omega)]
    · rw [List.getElem?_eq_none (by simp; omega)]
      rfl
theorem bigPart_length (size n k : Nat) : (bigPart size n k).length = size := by simp [bigPart]
theorem fr_big (n : Nat) : fr n = big 4 n := by
  unfold fr big bigAt
  simp [List.range_succ]

/-- Bytes, and bytes 0 behind them, up to a sector. -/
def pad64 (xs : List B8) : List B8 := xs ++ List.replicate (64 - xs.length) 0
theorem pad64_length {xs : List B8} (h : xs.length ≤ 64) : (pad64 xs).length = 64 := by simp [pad64]; omega
/-- The texts that a transaction's digest is of. -/
def txtsOf (num : Nat) (ws : List (Int × List B8)) : List (List B8) := big 8 num :: big 4 ws.length :: ws.flatMap fun p => [big 4 p.1.toNat, p.2]
theorem txtsOf_snoc (num m : Nat) (ws : List (Int × List B8)) (p : Int × List B8) : big 8 num :: big 4 m :: (ws ++ [p]).flatMap (fun p => [big 4 p.1.toNat, p.2]) = (big 8 num :: big 4 m :: ws.flatMap fun p => [big 4 p.1.toNat, p.2]) ++ [big 4 p.1.toNat, p.2] := by
  simp
def digOf (ks : List B32) (num : Nat) (ws : List (Int × List B8)) : List B8 := sha ks (framesOf (txtsOf num ws))
theorem digOf_length (ks : List B32) (num : Nat) (ws : List (Int × List B8)) : (digOf ks num ws).length = 32 := sha_length _ _
def noteB (num place count no : Nat) (d : List B8) : List B8 := pad64 (big 8 num ++ (big 4 place ++ (big 4 count ++ (big 4 no ++ d))))
theorem noteB_length (num place count no : Nat) {d : List B8} (hd : d.length = 32) : (noteB num place count no d).length = 64 := by
  unfold noteB
  rw [pad64_length]
  simp [big_length, hd]
def headB (ks : List B32) (num : Nat) : List B8 := pad64 (big 8 num ++ sha ks (framesOf [big 8 num]))
theorem headB_length (ks : List B32) (num : Nat) : (headB ks num).length = 64 := by
  unfold headB
  rw [pad64_length]
  simp [big_length, sha_length]
end Go.Proofs.YtlpljedacohngaaGreatDoor
end

/-
  inBytes: a number as so many bytes. Condition: it isn't below 0.
-/

section
set_option maxRecDepth 100000
set_option linter.unusedSimpArgs false
set_option linter.unusedVariables false
namespace Go.Proofs.YtlpljedacohngaaGreatDoor
open Go.RowKit

theorem big_byte (n k : Nat) : (n : Int) / 2 ^ (8 * k) % 256 = nb (BitVec.ofNat 8 (n / 2 ^ (8 * k))) := by
  rw [nb_of]
  have : ((2 : Int) ^ (8 * k)) = ((2 ^ (8 * k) : Nat) : Int) := by simp
  rw [this, ← Int.natCast_ediv]
  simp

set_option maxHeartbeats 1000000 in
theorem inBytes_any (w : World) (n size : Nat) (hn : n ≤ 9223372036854775807) (hs : size ≤ 8) :
    Calls Tryz.prog 36 #[.int .i64 n, .int .i64 size] w fun e w' => e = .returned (.slice (some ⟨w.heap.size, 0, none⟩) size size) ∧ Blk w' w.heap.size 5 (Vb (big size n)) ∧ Below w.heap.size w w' := by
  have hmk := make_bytes w size (by omega) (by omega)
  have hz : U (List.replicate size 0) = Vb (bigPart size n 0) := by rw [bigPart_zero]; simp [U, Vb, nb]
  have hb := Blk.new w 5 (U (List.replicate size 0))
  have hw := new_below w (.cells (U (List.replicate size 0)).toArray 5)
  rw [Int.toNat_natCast] at hmk
  rw [hz] at hb hw hmk
  have H := Lib.hid (And.intro hb hw)
  clear hz hb hw
  go_enter Tryz.func36, Tryz.ntmps36
  go_wp2_with fail
  clear hmk
  go_loopw [12] (fun iv wx => ∃ k : Nat, k ≤ size ∧ iv = .int .i64 k ∧ Blk wx w.heap.size 5 (Vb (bigPart size n k)) ∧ Below w.heap.size w wx) (fun iv _ => size - (intOf iv).toNat)
  case atStart => exact ⟨0, Nat.zero_le _, rfl, H.out.1, H.out.2⟩
  case round =>
    clear H
    obtain ⟨k, hk, rfl, h1, h2⟩ := hrel
    have HR := Lib.hid (And.intro h1 h2)
    by_cases hlt : k < size
    · have c0 := h1.cell (size - 1 - k)
      have f0 := h1.frozen (size - 1 - k)
      rw [Vb_get, List.getElem?_eq_getElem (by rw [bigPart_length]; omega)] at c0
      clear h1 h2
      go_wp2_with fail
      go_roundw
      case rel =>
        refine ⟨k + 1, by omega, by go_num, ?_, HR.out.2.setCell (p := ⟨w.heap.size, size - 1 - k, none⟩) (Nat.le_refl _) _⟩
        rw [big_byte, show k = size - 1 - (size - 1 - k) by omega]
        have := HR.out.1.set_ (size - 1 - k) (.int .u8 (nb (bigAt size n (size - 1 - k))))
        rw [bigPart_set hlt] at this
        rw [show size - 1 - (size - 1 - k) = k by omega]
        simpa [bigAt, show size - 1 - (size - 1 - k) = k by omega] using this
      case measure => simp [intOf]; omega
    · obtain rfl : k = size := by omega
      clear h1 h2
      go_wp2_with fail
      go_ret
      refine ⟨rfl, ?_, HR.out.2⟩
      rw [← bigPart_all]
      exact HR.out.1
end Go.Proofs.YtlpljedacohngaaGreatDoor
end

/-
  The law's own examples of archives. Conditions: the variables that paths' calls read hold what they must.
-/

section
set_option linter.unusedSimpArgs false
set_option linter.unusedVariables false
set_option maxRecDepth 100000
namespace Go.Proofs.YtlpljedacohngaaGreatDoor
open Go.RowKit

theorem din_blk {w : World} {g t n : Nat} {d : List B8} (h : Blk w g t (Vb d)) (hl : d.length = n) (hn : n ≤ 9223372036854775807) : DIn w (some ⟨g, 0, none⟩) n n d := by
  refine ⟨hl, Nat.le_refl _, hn, (fun h => by cases h), fun _ => ⟨g, 0, rfl, h.lt, fun j u hu => ?_⟩⟩
  rw [h.cell, Nat.zero_add]
  exact hu
theorem marked_cell (w : World) (C : List Value) (t k l i : Nat) : (w.alloc (.cells C.toArray t (k, l))).cell? ⟨w.heap.size, i, none⟩ = C[i]? := by
  have := cell_of_row (w.alloc (.cells C.toArray t (k, l))) w.heap.size i C.toArray t (k, l) (heap_alloc_new w _)
  rw [this]
  simp
theorem DIn.bytesAt {w : World} {A : Option Addr} {n c : Nat} {d : List B8} (h : DIn w A n c d) : BytesAt w A (d.map nb) := by
  intro hn
  rw [List.length_map, h.len] at hn
  obtain ⟨g, o, rfl, _, hc⟩ := h.cells hn
  refine ⟨_, rfl, fun j x hx => ?_⟩
  rw [addr_add]
  refine hc j _ ?_
  rw [List.getElem?_map] at hx
  unfold Vb
  rw [List.getElem?_map]
  cases hb : d[j]? with
  | none => rw [hb] at hx; cases hx
  | some b => rw [hb] at hx; cases hx; rfl
theorem bmap_inj {xs ys : List B8} (h : xs.map nb = ys.map nb) : xs = ys := (List.map_inj_right (fun a b hab => nb_inj hab)).1 h
/-- The document's Same, of bytes. -/
theorem rsame_din {w : World} {A B : Option Addr} {n c m d : Nat} {xs ys : List B8} (h : DIn w A n c xs) (k : DIn w B m d ys) :
    Calls Tryz.prog 12 #[.slice A n c, .slice B m d] w fun e w' => e = .returned (.bool (decide (xs = ys))) ∧ Below w.heap.size w w' := by
  refine (same_walk w A B n m c d (xs.map nb) (ys.map nb) (by rw [List.length_map, h.len]) (by rw [List.length_map, k.len]) (by have := h.cap; have := h.big; omega) h.bytesAt k.bytesAt).mono ?_
  rintro e w' ⟨rfl, q, rfl⟩
  refine ⟨?_, pdrewN _ _⟩
  congr 2
  by_cases he : xs = ys
  · subst he; simp
  · rw [decide_eq_false he, beq_eq_false_iff_ne]
    exact fun e => he (bmap_inj e)
def crel : List Value := [.int .u8 67, .int .u8 82, .int .u8 69, .int .u8 76]
theorem crel_Vb : crel = Vb [67#8, 82#8, 69#8, 76#8] := by simp [crel, Vb, nb]
set_option maxHeartbeats 1000000 in
theorem write_nil12 (w : World) : Calls Tryz.prog 24 #[.slice none 0 0] w fun e w' => ∃ A c, e = .returned (.slice A 5 c) ∧ DIn w' A 5 c [67#8, 82#8, 69#8, 76#8, 0#8] ∧ Below w.heap.size w w' := by
  have hcs := conv_const
  have hz : big 1 0 = [0#8] := rfl
  have hb1 := pnew w (.cells #[.int .u8 67, .int .u8 82, .int .u8 69, .int .u8 76] 5 (4, 5))
  have HB := Lib.hid (inBytes_any (w.alloc (.cells #[.int .u8 67, .int .u8 82, .int .u8 69, .int .u8 76] 5 (4, 5))) 0 1 (by omega) (by omega))
  have HC : Hid (∀ (j : Nat) u, crel[j]? = some u → (w.alloc (.cells #[.int .u8 67, .int .u8 82, .int .u8 69, .int .u8 76] 5 (4, 5))).cell? ⟨w.heap.size, 0 + j, none⟩ = some u) := Lib.hid (fun j u hu => by rw [Nat.zero_add]; exact (marked_cell w crel _ 4 5 j).trans hu)
  have HW := Lib.hid hb1
  rw [hz] at HB
  clear hb1 hz
  go_enter Tryz.func24, Tryz.ntmps24
  go_wp2_with (first
    | (go_at_call 36; go_must (refine HB.out.mono ?_); rintro e w1 ⟨rfl, h1, h2⟩; have HQ : Hid (∀ (j : Nat) u, crel[j]? = some u → w1.cell? ⟨w.heap.size, 0 + j, none⟩ = some u) := Lib.hid (fun j u hu => pcell_below (HC.out j u hu) h2); have H1 : Hid (Blk w1 (w.heap.size + 1) 5 (Vb [0#8]) ∧ Below w.heap.size w w1) := Lib.hid ⟨by simpa only [World.size_alloc] using h1, HW.out.trans (h2.mono HW.out.size)⟩; clear h1 h2)
    | (refine wpList_app_full (n := 4) (A := some ⟨w.heap.size, 0, none⟩) rfl rfl Tryz.underlying22 byt_info rfl crel (Vb [0#8]) rfl rfl (fun _ => ⟨_, _, rfl, HQ.out⟩) rfl rfl (fun j u hu => by rw [Nat.zero_add]; exact (H1.out.1.cell j).trans hu) (Vb_oneCell _) (by decide) (by decide) (by decide) ?_; intro cap9 w9 k1 k2))
  have HF := Lib.hid (show DIn w9 (some ⟨w1.heap.size, 0, none⟩) 5 cap9 [67#8, 82#8, 69#8, 76#8, 0#8] ∧ Below w.heap.size w w9 from ⟨by
    rw [crel_Vb] at k1
    exact din_own (d := [67#8, 82#8, 69#8, 76#8, 0#8]) k1, H1.out.2.trans (k2.mono H1.out.2.size)⟩)
  clear k1 k2
  go_wp2_with fail
  go_loopw [3, 15] (fun u3 iv wr => u3 = .slice (some ⟨w1.heap.size, 0, none⟩) 5 cap9 ∧ iv = .int .i64 0 ∧ wr = w9) (fun _ _ _ => 0)
  case atStart => exact ⟨rfl, rfl, rfl⟩
  case round =>
    obtain ⟨rfl, rfl, rfl⟩ := hrel
    go_wp2_with fail
    go_ret
    exact ⟨some ⟨w1.heap.size, 0, none⟩, cap9, rfl, HF.out.1, HF.out.2⟩
theorem encode_nil12 (w : World) (hV : PV w) : Calls Tryz.prog 11 #[.slice none 0 0] w fun e w' => ∃ A c, e = .returned (.tuple #[.slice A 5 c, .int .i64 0]) ∧ DIn w' A 5 c [67#8, 82#8, 69#8, 76#8, 0#8] ∧ Below w.heap.size w w' := by
  have HC := Lib.hid (check_arch w hV none 0 0 [] [] (EIn.none w))
  have hz : chkE [] = (0, 0) := rfl
  rw [hz] at HC
  clear hz hV
  go_enter Tryz.func11, Tryz.ntmps11
  go_wp2_with fail
  refine HC.out.mono ?_
  rintro e w1 ⟨rfl, h1⟩
  have H1 := Lib.hid h1
  clear h1
  go_wp2_with fail
  refine (write_nil12 w1).mono ?_
  rintro e w2 ⟨A, c, rfl, h2, h3⟩
  have H2 := Lib.hid (And.intro h2 (H1.out.trans (h3.mono H1.out.size)))
  clear h2 h3
  go_wp2_with fail
  go_ret2
  exact ⟨A, c, rfl, H2.out.1, H2.out.2⟩
/-- The example's link. -/
def exLink : En := { path := [⟨#[120]⟩], kind := 2, mode := 511, data := [46#8, 46#8, 47#8, 121#8] }
theorem exLink_bad : chkE [exLink] = (0, 10) := by decide +kernel
theorem link_small : SmallE exLink := ⟨by decide, by decide +kernel, by decide⟩
theorem build_link (W : World) (g g2 c : Nat) : (Instr.build 40 #[(0, .slice (some ⟨g, 0, none⟩) 1 1), (1, .int .i64 2), (2, .int .i64 511), (3, .slice (some ⟨g2, 0, none⟩) 4 c)]).run Tryz.prog W = .ok (evV ⟨some ⟨g, 0, none⟩, 1, 1, 2, 511, some ⟨g2, 0, none⟩, 4, c⟩) W := by kernel_rfl
abbrev lnkV (n : Nat) : Ev := ⟨some ⟨n, 0, none⟩, 1, 1, 2, 511, some ⟨n + 1, 0, none⟩, 4, 4⟩
abbrev lnkW (w : World) : World := ((w.alloc (.cells #[.string ⟨#[120]⟩] 9)).alloc (.cells #[.int .u8 46, .int .u8 46, .int .u8 47, .int .u8 121] 5 (4, 5))).alloc (.cells #[.slice (some ⟨w.heap.size, 0, none⟩) 1 1, .int .i64 2, .int .i64 511, .slice (some ⟨w.heap.size + 1, 0, none⟩) 4 4] 40)
theorem ups_Vb : Vb exLink.data = [.int .u8 46, .int .u8 46, .int .u8 47, .int .u8 121] := by simp [exLink, Vb, nb]
theorem link_in (w : World) : EIn (lnkW w) (some ⟨w.heap.size + 1 + 1, 0, none⟩) 1 1 [lnkV w.heap.size] [exLink] ∧ Below w.heap.size w (lnkW w) := by
  have b1 := pnew w (.cells #[.string ⟨#[120]⟩] 9)
  have b2 := pnew (w.alloc (.cells #[.string ⟨#[120]⟩] 9)) (.cells #[.int .u8 46, .int .u8 46, .int .u8 47, .int .u8 121] 5 (4, 5))
  have b3 := pnew ((w.alloc (.cells #[.string ⟨#[120]⟩] 9)).alloc (.cells #[.int .u8 46, .int .u8 46, .int .u8 47, .int .u8 121] 5 (4, 5))) (.cells #[.slice (some ⟨w.heap.size, 0, none⟩) 1 1, .int .i64 2, .int .i64 511, .slice (some ⟨w.heap.size + 1, 0, none⟩) 4 4] 40)
  have hs : SIn (w.alloc (.cells #[.string ⟨#[120]⟩] 9)) (some ⟨w.heap.size, 0, none⟩) 1 1 exLink.path := sin_new (w := w) (t := 9) (p := exLink.path) (n := 1) (c := 1) (es := []) rfl (Nat.le_refl _) (by decide)
  have hd : DIn ((w.alloc (.cells #[.string ⟨#[120]⟩] 9)).alloc (.cells #[.int .u8 46, .int .u8 46, .int .u8 47, .int .u8 121] 5 (4, 5))) (some ⟨w.heap.size + 1, 0, none⟩) 4 4 exLink.data := by
    refine ⟨rfl, Nat.le_refl _, by omega, (fun h => by cases h), fun _ => ⟨_, _, rfl, by simp, fun j u hu => ?_⟩⟩
    rw [ups_Vb] at hu
    rw [Nat.zero_add]
    have := marked_cell (w.alloc (.cells #[.string ⟨#[120]⟩] 9)) [.int .u8 46, .int .u8 46, .int .u8 47, .int .u8 121] 5 4 5 j
    rw [World.size_alloc] at this
    exact this.trans hu
  have hk := Blk.new ((w.alloc (.cells #[.string ⟨#[120]⟩] 9)).alloc (.cells #[.int .u8 46, .int .u8 46, .int .u8 47, .int .u8 121] 5 (4, 5))) 40 (evC (lnkV w.heap.size))
  have hok : EvOk (lnkW w) (lnkV w.heap.size) exLink := ⟨(hs.below b2).below b3, rfl, rfl, hd.below b3, link_small⟩
  rw [World.size_alloc, World.size_alloc] at hk
  refine ⟨⟨rfl, rfl, Nat.le_refl _, by omega, (fun h => by cases h), fun _ => ⟨_, _, rfl, hk.lt, fun i x hx j u hu => ?_⟩, fun i x e hx he => ?_⟩, (b1.trans (b2.mono b1.size)).trans (b3.mono (Nat.le_trans b1.size b2.size))⟩
  · match i, hx with
    | 0, hx =>
      cases hx
      show (lnkW w).cell? ⟨w.heap.size + 1 + 1, 0 + 0 * 4 + j, none⟩ = some u
      rw [show 0 + 0 * 4 + j = j by omega]
      exact (hk.cell j).trans hu
    | i + 1, hx => simp at hx
  · match i, hx, he with
    | 0, hx, he => cases hx; cases he; exact hok
    | i + 1, hx, he => simp at hx
set_option maxHeartbeats 2000000 in
theorem known12_any (w : World) (hV : PV w) : Calls Tryz.prog 9 #[] w fun e w' => e = .returned (.bool true) ∧ Below w.heap.size w w' := by
  have hcs := conv_const
  have HE := Lib.hid (encode_nil12 w hV)
  have HV := Lib.hid hV
  clear hV
  go_enter Tryz.func9, Tryz.ntmps9
  go_wp2_with fail
  refine HE.out.mono ?_
  rintro e w1 ⟨A, c, rfl, h1, h2⟩
  have H1 := Lib.hid (And.intro h1 h2)
  clear h1 h2
  have hk : (convert 22 22 (.slice (some ⟨w1.heap.size + 1, 0, none⟩) 4 4)).run Tryz.prog ((w1.alloc (.cells #[.string ⟨#[120]⟩] 9)).alloc (.cells #[.int .u8 46, .int .u8 46, .int .u8 47, .int .u8 121] 5)) = .ok (.slice (some ⟨w1.heap.size + 1, 0, none⟩) 4 4) ((w1.alloc (.cells #[.string ⟨#[120]⟩] 9)).alloc (.cells #[.int .u8 46, .int .u8 46, .int .u8 47, .int .u8 121] 5 (4, 5))) := by
    have := conv_const (w1.alloc (.cells #[.string ⟨#[120]⟩] 9)) #[.int .u8 46, .int .u8 46, .int .u8 47, .int .u8 121] 4 4
    simp only [World.size_alloc] at this
    exact this
  clear hcs
  have HL := Lib.hid (link_in w1)
  have hc := check_arch (lnkW w1) ((HV.out.to H1.out.2).to HL.out.2) _ _ _ _ _ HL.out.1
  rw [exLink_bad] at hc
  have HC := Lib.hid hc
  clear hc
  go_wp2_with fail
  refine HC.out.mono ?_
  rintro e w2 ⟨rfl, h2⟩
  have H2 := Lib.hid (And.intro (H1.out.1.below (HL.out.2.trans (h2.mono HL.out.2.size))) (H1.out.2.trans ((HL.out.2.trans (h2.mono HL.out.2.size)).mono H1.out.2.size)))
  clear h2
  have hd : DIn (w2.alloc (.cells #[.int .u8 67, .int .u8 82, .int .u8 69, .int .u8 76, .int .u8 0] 5)) (some ⟨w2.heap.size, 0, none⟩) 5 5 [67#8, 82#8, 69#8, 76#8, 0#8] := by
    have hv : Vb [67#8, 82#8, 69#8, 76#8, 0#8] = [.int .u8 67, .int .u8 82, .int .u8 69, .int .u8 76, .int .u8 0] := by simp [Vb, nb]
    have := Blk.new w2 5 (Vb [67#8, 82#8, 69#8, 76#8, 0#8])
    rw [hv] at this
    exact din_blk (by rw [hv]; exact this) rfl (by omega)
  have HS := Lib.hid (rsame_din (H2.out.1.below (pnew _ _)) hd)
  clear hd
  go_wp2_with (go_at_call 12; go_must (refine HS.out.mono ?_); rintro e w3 ⟨rfl, h3⟩; have H3 := Lib.hid (H2.out.2.trans (((pnew _ _).trans (h3.mono (pnew _ _).size)).mono H2.out.2.size)); clear h3)
  go_ret
  exact ⟨rfl, H3.out⟩
end Go.Proofs.YtlpljedacohngaaGreatDoor
end

/-
  The bytes of an archive, as the program writes them. Conditions: the entries lie in memory, and aren't refused; the constants lie in their variable.
-/

section
set_option linter.unusedSimpArgs false
set_option linter.unusedVariables false
set_option maxRecDepth 100000
namespace Go.Proofs.YtlpljedacohngaaGreatDoor
open Go.RowKit

/-- The bytes of an entry; of an archive's beginning and its first entries. -/
def entB (e : En) : List B8 := big 1 e.kind.toNat ++ big 2 e.mode.toNat ++ big 1 (textP e.path).size ++ bytB (textP e.path) ++ big 2 e.data.length ++ e.data ++ sumE e
def arcB (n : Nat) (es : List En) : List B8 := [67#8, 82#8, 69#8, 76#8] ++ big 1 n ++ es.flatMap entB
theorem arcB_next {n : Nat} {es : List En} {i : Nat} {e : En} (h : es[i]? = some e) : arcB n (es.take (i + 1)) = arcB n (es.take i) ++ entB e := by
  unfold arcB
  rw [List.take_add_one, h, Option.toList_some]
  simp
/-- What an entry has that may be written. -/
structure WrE (e : En) : Prop where
  k0 : 0 ≤ e.kind
  k1 : e.kind ≤ 255
  m0 : 0 ≤ e.mode
  m1 : e.mode ≤ 65535
  text : (joinP e.path).size ≤ 900
  data : e.data.length ≤ 1000
theorem entB_small {e : En} (h : WrE e) : (entB e).length ≤ 2000 := by
  have h1 : (textP e.path).size = (joinP e.path).size + 1 := by
    unfold textP
    rw [ByteArray.size_append]
    have : slashB.size = 1 := rfl
    omega
  have h2 : (sumE e).length ≤ 8 := by unfold sumE; rw [List.length_take]; omega
  have h3 := h.text
  have h4 := h.data
  unfold entB
  simp only [List.length_append, big_length, bytB_length]
  omega
theorem arcB_small {n : Nat} {es : List En} (h : ∀ e ∈ es, WrE e) : (arcB n es).length ≤ 5 + es.length * 2000 := by
  unfold arcB
  have : (es.flatMap entB).length ≤ es.length * 2000 := by
    induction es with
    | nil => simp
    | cons a es ih =>
      have h1 := ih fun e he => h e (by simp [he])
      have h2 := entB_small (h a (by simp))
      rw [List.flatMap_cons, List.length_append, List.length_cons]
      omega
  simp only [List.length_append, big_length, List.length_cons, List.length_nil]
  omega
/-- Where writing stands: the bytes in a row of the call's own, the entry in its box. -/
structure WAt (w0 w : World) (g : Nat) (x : Ev) (u : Value) (bs : List B8) : Prop where
  own : w.ownsRow w0.heap.size 5 1 u bs.length (Vb bs)
  box : Blk w g 40 (evC x)
  b : Below w0.heap.size w0 w
theorem WAt.below {w0 w w' : World} {g : Nat} {x : Ev} {u : Value} {bs : List B8} (h : WAt w0 w g x u bs) (hb : Below w.heap.size w w') : WAt w0 w' g x u bs :=
  ⟨ownsRow_only (S := []) h.own (Only.of_below hb) (by simp), h.box.below hb h.box.lt, h.b.trans (hb.mono h.b.size)⟩
theorem WAt.put {w0 w w' : World} {g : Nat} {x : Ev} {u u' : Value} {bs cs : List B8} (h : WAt w0 w g x u bs) (ho : w'.ownsRow w0.heap.size 5 1 u' cs.length (Vb cs)) (hO : Only u.ownBlock.toList w w') : WAt w0 w' g x u' cs :=
  ⟨ho, h.box.only hO (by
    have := own_blk_ne h.own h.box (by decide)
    simpa using this), h.b.trans (hO.below h.b.size (fun k hk => (h.own.lt k (by simpa using hk)).1))⟩
theorem Vb_app (xs ys : List B8) : Vb (xs ++ ys) = Vb xs ++ Vb ys := by unfold Vb; rw [List.map_append]
section
variable {ops : Array Oper} {Q : Exit → Act → World → Prop} {rest : List Oper} {o : Oper} {a : Act}
theorem wat_app {w0 w : World} {g : Nat} {x : Ev} {u : Value} {bs ds : List B8} {A : Option Addr} {m c : Nat} {s y : Operand} (h : WAt w0 w g x u bs) (hgd : o.guard = none) (ho : o.op = .call { callee := .builtin .append, args := #[s, y], argTypes := #[22, 22] }) (hs : a.eval s = u) (hx : a.eval y = .slice A m c) (hd : DIn w A m c ds) (hmx : bs.length + m ≤ 1000000)
    (k : ∀ v' w', WAt w0 w' g x v' (bs ++ ds) → wpList Tryz.prog ops Q rest (a.put o.dst v') w') : wpList Tryz.prog ops Q (o :: rest) a w := by
  refine wpList_app (v := u) (base := w0.heap.size) (n := bs.length) hgd ho Tryz.underlying22 byt_info rfl (by decide) (Vb ds) hs h.own hx (by rw [Vb_length, hd.len]; omega) (fun h0 => din_rows hd h0) (Vb_oneCell _) hmx (by decide) h.b.size ?_
  intro v' w' k1 k2 _
  refine k v' w' (h.put ?_ k2)
  rw [List.length_append, Vb_app, hd.len]
  exact k1
theorem strV_bytB (s : ByteArray) : Lib.strCells s = Vb (bytB s) := by
  unfold Lib.strCells Vb bytB
  simp [List.map_map, Function.comp_def, nb]
theorem wat_str {w0 w : World} {g : Nat} {x : Ev} {u : Value} {bs : List B8} {t : ByteArray} {s y : Operand} (h : WAt w0 w g x u bs) (hgd : o.guard = none) (ho : o.op = .call { callee := .builtin .append, args := #[s, y], argTypes := #[22, 9] }) (hs : a.eval s = u) (hx : a.eval y = .string t) (hmx : bs.length + t.size ≤ 1000000)
    (k : ∀ v' w', WAt w0 w' g x v' (bs ++ bytB t) → wpList Tryz.prog ops Q rest (a.put o.dst v') w') : wpList Tryz.prog ops Q (o :: rest) a w := by
  obtain ⟨i, hi, hz, hsz, hby⟩ := info_parts byt_info
  refine Lib.wpList_append_own_string (P := Tryz.prog) w hgd s y 22 9 ho w0.heap.size 5 i Tryz.underlying22 Tryz.underlying9 hi hz hsz hby u bs.length (Vb bs) hs h.own t hx (by unfold maxLen; omega) (by omega) h.b.size ?_
  intro v' w' k1 k2 _
  refine k v' w' (h.put ?_ ?_)
  · rw [List.length_append, bytB_length, Vb_app, ← strV_bytB]
    exact k1
  · exact (Only.refl _ w).grown k2 (fun k hk => .inl (by simp [hk]))
end
theorem sby_any (w : World) (n size : Nat) (hn : n ≤ 9223372036854775807) (hs : size ≤ 8) :
    Calls Tryz.prog 36 #[.int .i64 n, .int .i64 size] w fun e w' => e = .returned (.slice (some ⟨w.heap.size, 0, none⟩) size size) ∧ DIn w' (some ⟨w.heap.size, 0, none⟩) size size (big size n) ∧ Below w.heap.size w w' := by
  refine (inBytes_any w n size hn hs).mono ?_
  rintro e w' ⟨rfl, h1, h2⟩
  refine ⟨rfl, ⟨big_length size n, Nat.le_refl _, by omega, (fun h => by cases h), fun _ => ⟨w.heap.size, 0, rfl, h1.lt, fun j u hu => ?_⟩⟩, h2⟩
  rw [Nat.zero_add, h1.cell]
  exact hu
set_option maxHeartbeats 8000000 in
theorem write12_any (w : World) (hK : Roots Ks w) (A : Option Addr) (n c : Nat) (xs : List Ev) (es : List En) (h : EIn w A n c xs es) (hn : n ≤ 100) (hwr : ∀ e ∈ es, WrE e) :
    Calls Tryz.prog 24 #[.slice A n c] w fun e w' => ∃ B d, e = .returned (.slice B (arcB n es).length d) ∧ DIn w' B (arcB n es).length d (arcB n es) ∧ Below w.heap.size w w' ∧ w'.ownsRow w.heap.size 5 1 (.slice B (arcB n es).length d) (arcB n es).length (Vb (arcB n es)) := by
  have hcs := conv_const
  have hb1 := pnew w (.cells #[.int .u8 67, .int .u8 82, .int .u8 69, .int .u8 76] 5 (4, 5))
  have HB := Lib.hid (inBytes_any (w.alloc (.cells #[.int .u8 67, .int .u8 82, .int .u8 69, .int .u8 76] 5 (4, 5))) n 1 (by omega) (by omega))
  have HC : Hid (∀ (j : Nat) u, crel[j]? = some u → (w.alloc (.cells #[.int .u8 67, .int .u8 82, .int .u8 69, .int .u8 76] 5 (4, 5))).cell? ⟨w.heap.size, 0 + j, none⟩ = some u) := Lib.hid (fun j u hu => by rw [Nat.zero_add]; exact (marked_cell w crel _ 4 5 j).trans hu)
  have HW := Lib.hid hb1
  have H := Lib.hid (And.intro h (And.intro hK hwr))
  have HL := Lib.hid h.elen
  clear hb1 h hK hwr
  go_enter Tryz.func24, Tryz.ntmps24
  go_wp2_with (first
    | (go_at_call 36; go_must (refine HB.out.mono ?_); rintro e w1 ⟨rfl, h1, h2⟩; have HQ : Hid (∀ (j : Nat) u, crel[j]? = some u → w1.cell? ⟨w.heap.size, 0 + j, none⟩ = some u) := Lib.hid (fun j u hu => pcell_below (HC.out j u hu) h2); have H1 : Hid (Blk w1 (w.heap.size + 1) 5 (Vb (big 1 n)) ∧ Below w.heap.size w w1) := Lib.hid ⟨by simpa only [World.size_alloc] using h1, HW.out.trans (h2.mono HW.out.size)⟩; clear h1 h2)
    | (refine wpList_app_full (n := 4) (A := some ⟨w.heap.size, 0, none⟩) rfl rfl Tryz.underlying22 byt_info rfl crel (Vb (big 1 n)) rfl rfl (fun _ => ⟨_, _, rfl, HQ.out⟩) rfl rfl (fun j u hu => by rw [Nat.zero_add]; exact (H1.out.1.cell j).trans hu) (Vb_oneCell _) (by decide) (by decide) (by decide) ?_; intro cap9 w9 k1 k2))
  have k1' := own_base k1 (H1.out.2.size)
  rw [show crel ++ Vb (big 1 n) = Vb (arcB n (es.take 0)) from by unfold arcB; simp only [List.take_zero, List.flatMap_nil, List.append_nil, Vb_app, crel_Vb]] at k1'
  have H9 : Hid (w9.ownsRow w.heap.size 5 1 (.slice (some ⟨w1.heap.size, 0, none⟩) 5 cap9) (arcB n (es.take 0)).length (Vb (arcB n (es.take 0))) ∧ Below w.heap.size w w9) := Lib.hid ⟨by simpa [arcB, big_length] using k1', H1.out.2.trans (k2.mono H1.out.2.size)⟩
  clear k1 k1' k2 HB HC HQ
  go_wp2_with fail
  go_loopw [3, 15] (fun u3 iv wr => ∃ i : Nat, i ≤ n ∧ iv = .int .i64 i ∧ Hid (wr.ownsRow w.heap.size 5 1 u3 (arcB n (es.take i)).length (Vb (arcB n (es.take i)))) ∧ Hid (Below w.heap.size w wr)) (fun _ iv _ => n - (intOf iv).toNat)
  case atStart => exact ⟨0, by omega, rfl, Lib.hid H9.out.1, Lib.hid H9.out.2⟩
  case round =>
    obtain ⟨i, hi, rfl, HO, HBW⟩ := hrel
    by_cases hlt : i < n
    · obtain ⟨g, o, x, e, rfl, hg, hx, he, hok, hcl⟩ := (H.out.1.below HBW.out).row hlt
      have HWe := Lib.hid (H.out.2.2 e (List.mem_of_getElem? he))
      have HX0 := Lib.hid he
      have HCl := Lib.hid hcl
      have HZ := Lib.hid (Blk.new wr 40 [.slice none 0 0, .int .i64 0, .int .i64 0, .slice none 0 0])
      obtain ⟨x', e', _, _, hok0⟩ : ∃ x' e', xs[i]? = some x' ∧ es[i]? = some e' ∧ EvOk w x' e' := H.out.1.get hlt
      have HE : Hid (EvOk w x e) := Lib.hid (H.out.1.ok i x e hx he)
      have hpn : x.pn ≤ 1000000 := by have := hok.small.names; rw [hok.path.len] at this; omega
      have hjn : (joinP e.path).size ≤ 900 := HWe.out.text
      have hdl : e.data.length ≤ 1000 := HWe.out.data
      have HDN : Hid (x.dn = e.data.length) := Lib.hid hok.data.len.symm
      have hdn : x.dn ≤ 1000 := by rw [HDN.out]; exact hdl
      obtain ⟨kn, hkn⟩ : ∃ kn : Nat, x.k = (kn : Int) := ⟨x.k.toNat, by have := HWe.out.k0; rw [hok.kind] at this; omega⟩
      obtain ⟨mn, hmn⟩ : ∃ mn : Nat, x.m = (mn : Int) := ⟨x.m.toNat, by have := HWe.out.m0; rw [hok.mode] at this; omega⟩
      have HKM : Hid (e.kind.toNat = kn ∧ e.mode.toNat = mn) := Lib.hid ⟨by rw [hok.kind, hkn]; omega, by rw [hok.mode, hmn]; omega⟩
      have hk255 : kn ≤ 255 := by have := HWe.out.k1; rw [hok.kind, hkn] at this; omega
      have hm64 : mn ≤ 65535 := by have := HWe.out.m1; rw [hok.mode, hmn] at this; omega
      obtain ⟨tx, htx⟩ : ∃ t, textP e.path = t := ⟨_, rfl⟩
      have htl : tx.size ≤ 901 := by
        rw [← htx]
        unfold textP
        rw [ByteArray.size_append]
        have : slashB.size = 1 := rfl
        omega
      have HX : Hid (textP e.path = tx ∧ es[i]? = some e) := Lib.hid ⟨htx, he⟩
      have hbl : (arcB n (es.take i)).length ≤ 5 + 100 * 2000 := by
        have := arcB_small (n := n) (es := es.take i) (fun e he => H.out.2.2 e (List.mem_of_mem_take he))
        rw [List.length_take] at this
        omega
      obtain ⟨bs, hbs⟩ : ∃ b, arcB n (es.take i) = b := ⟨_, rfl⟩
      rw [hbs] at hbl HO
      have HBS := Lib.hid hbs
      have b0 : (0 : Int) ≤ (i : Int) := by omega
      have b1 : (i : Int) < (n : Int) := by omega
      clear hx he hok hcl hg hok0 htx hbs
      obtain ⟨PA, pn, pc, k, m, DA, dn, dc⟩ := x
      simp only at hpn hdn hkn hmn
      subst hkn hmn
      go_wp2_with (first
        | (refine wpList_load_mid rfl 40 (.tmp 17) rfl g (o + i * 4) rfl _ _ HCl.out Tryz.underlying40 rfl infoEv ?_)
        | (refine wpList_store_blk rfl 40 (.tmp 5) (.tmp 18) rfl wr.heap.size 0 (evC ⟨PA, pn, pc, (kn : Int), (mn : Int), DA, dn, dc⟩) rfl rfl HZ.out (by simp [evC]) infoEv (evC_one _) ?_; intro w2 hA hO; rw [over_whole (by simp [evC])] at hA; obtain ⟨y0, y1, y2, y3⟩ := four_ev hA; have WA : Hid (WAt w w2 wr.heap.size ⟨PA, pn, pc, (kn : Int), (mn : Int), DA, dn, dc⟩ u3 bs) := Lib.hid ⟨ownsRow_only (ownsRow_only (S := []) HO.out (Only.of_below (pnew wr _)) (by simp)) hO (fun q hq hm => by simp at hm; have := (HO.out.lt q hq).2; omega), hA, HBW.out.trans (((pnew wr _).trans (hO.below (B := wr.heap.size) (by simp) (by simp))).mono HBW.out.size)⟩; clear hA hO))
      go_wp2_with fail
      refine (ptext_any w2 PA pn pc e.path (HE.out.path.below WA.out.b) (by omega) (by omega)).mono ?_
      rintro en w3 ⟨rfl, h3⟩
      rw [HX.out.1]
      have WA := Lib.hid (WA.out.below h3)
      obtain ⟨y0, y1, y2, y3⟩ := four_ev WA.out.box
      clear h3
      go_wp2_with fail
      refine (sby_any _ kn 1 (by omega) (by omega)).mono ?_
      rintro en w1a ⟨rfl, hd1, hb1⟩
      have WA := Lib.hid (WA.out.below hb1)
      have HD1 := Lib.hid hd1
      obtain ⟨y0, y1, y2, y3⟩ := four_ev WA.out.box
      clear hd1 hb1
      go_wp2_with (refine wat_app WA.out rfl rfl rfl rfl HD1.out (by (try simp only [List.length_append, big_length, bytB_length]); omega) ?_; intro v1 w1b WB; have WA := Lib.hid WB; obtain ⟨y0, y1, y2, y3⟩ := four_ev WB.box; clear WB)
      refine (sby_any _ mn 2 (by omega) (by omega)).mono ?_
      rintro en w2a ⟨rfl, hd2, hb2⟩
      have WA := Lib.hid (WA.out.below hb2)
      have HD2 := Lib.hid hd2
      obtain ⟨y0, y1, y2, y3⟩ := four_ev WA.out.box
      clear hd2 hb2
      go_wp2_with (refine wat_app WA.out rfl rfl rfl rfl HD2.out (by (try simp only [List.length_append, big_length, bytB_length]); omega) ?_; intro v2 w2b WB; have WA := Lib.hid WB; obtain ⟨y0, y1, y2, y3⟩ := four_ev WB.box; clear WB)
      refine (sby_any _ tx.size 1 (by omega) (by omega)).mono ?_
      rintro en w3a ⟨rfl, hd3, hb3⟩
      have WA := Lib.hid (WA.out.below hb3)
      have HD3 := Lib.hid hd3
      obtain ⟨y0, y1, y2, y3⟩ := four_ev WA.out.box
      clear hd3 hb3
      go_wp2_with (first
        | (refine wat_app WA.out rfl rfl rfl rfl HD3.out (by (try simp only [List.length_append, big_length, bytB_length]); omega) ?_; intro v3 w3b WB; have WA := Lib.hid WB; obtain ⟨y0, y1, y2, y3⟩ := four_ev WB.box; clear WB)
        | (refine wat_str (t := tx) WA.out rfl rfl rfl rfl (by (try simp only [List.length_append, big_length, bytB_length]); omega) ?_; intro v4 w4b WB; have WA := Lib.hid WB; obtain ⟨y0, y1, y2, y3⟩ := four_ev WB.box; clear WB))
      refine (sby_any _ dn 2 (by omega) (by omega)).mono ?_
      rintro en w5a ⟨rfl, hd5, hb5⟩
      have WA := Lib.hid (WA.out.below hb5)
      have HD5 := Lib.hid hd5
      obtain ⟨y0, y1, y2, y3⟩ := four_ev WA.out.box
      clear hd5 hb5
      go_wp2_with (first
        | (refine wat_app WA.out rfl rfl rfl rfl HD5.out (by (try simp only [List.length_append, big_length, bytB_length]); omega) ?_; intro v5 w5b WB; have WA := Lib.hid WB; obtain ⟨y0, y1, y2, y3⟩ := four_ev WB.box; clear WB)
        | (refine wat_app WA.out rfl rfl rfl rfl (HE.out.data.below WA.out.b) (by (try simp only [List.length_append, big_length, bytB_length]); omega) ?_; intro v6 w6b WB; have WA := Lib.hid WB; obtain ⟨y0, y1, y2, y3⟩ := four_ev WB.box; clear WB)
        | (refine wpList_load_mid rfl 40 (.tmp 5) rfl wr.heap.size 0 rfl _ _ (blk_range WA.out.box) Tryz.underlying40 rfl infoEv ?_))
      refine (sumof_any w6b (H.out.2.1.below WA.out.b H.out.2.1.pos) ⟨PA, pn, pc, (kn : Int), (mn : Int), DA, dn, dc⟩ e (HE.out.below WA.out.b) hjn hdl).mono ?_
      rintro en w7a ⟨A7, rfl, hd7, hb7⟩
      have WA := Lib.hid (WA.out.below hb7)
      have HD7 := Lib.hid hd7
      have hsl : (sumE e).length = 8 := hd7.len
      clear hd7 hb7
      go_wp2_with (refine wat_app WA.out rfl rfl rfl rfl HD7.out (by (try simp only [List.length_append, big_length, bytB_length]); omega) ?_; intro v7 w7b WB; have WA := Lib.hid WB; clear WB)
      have HF : Hid (w7b.ownsRow w.heap.size 5 1 v7 (arcB n (es.take (i + 1))).length (Vb (arcB n (es.take (i + 1)))) ∧ Below w.heap.size w w7b) := Lib.hid (by
        have e1 : arcB n (es.take (i + 1)) = bs ++ big 1 kn ++ big 2 mn ++ big 1 tx.size ++ bytB tx ++ big 2 dn ++ e.data ++ sumE e := by
          rw [arcB_next HX.out.2, HBS.out]
          unfold entB
          rw [HX.out.1, HKM.out.1, HKM.out.2, ← HDN.out]
          simp only [List.append_assoc]
        rw [e1]
        exact ⟨WA.out.own, WA.out.b⟩)
      exact ⟨⟨i + 1, by omega, by go_num, Lib.hid HF.out.1, Lib.hid HF.out.2⟩, by simp [intOf]; omega⟩
    · obtain rfl : i = n := by omega
      have HE : Hid (es.take i = es) := Lib.hid (by rw [← HL.out, List.take_length])
      have hu := HO.out
      rw [HE.out] at hu
      obtain ⟨B, d, rfl⟩ := own_slice hu
      have HU := Lib.hid (And.intro (din_own hu) hu)
      clear hu HO
      go_wp2_with fail
      go_ret
      exact ⟨B, d, rfl, HU.out.1, HBW.out, HU.out.2⟩
end Go.Proofs.YtlpljedacohngaaGreatDoor
end

/-
  Encode: the bytes of entries that aren't refused, or why one is. Conditions: the entries lie in memory; the constants lie in their variables.
-/

section
set_option linter.unusedSimpArgs false
set_option linter.unusedVariables false
set_option maxRecDepth 100000
namespace Go.Proofs.YtlpljedacohngaaGreatDoor
open Go.RowKit

theorem wre_of {e : En} {ahead : List En} {b : Bool} (h : refE e ahead b = 0) (ht : (joinP e.path).size ≤ 900) : WrE e := by
  have hf := refFrom_zero 9 0 h
  have h1 := hf 1 (by omega) (by omega)
  have h2 := hf 2 (by omega) (by omega)
  have h4 := hf 4 (by omega) (by omega)
  simp only [failE, kindlessE, riskyE, longE, Bool.not_eq_false', Bool.or_eq_true, decide_eq_true_eq, decide_eq_false_iff_not] at h1 h2 h4
  have hm : 0 ≤ e.mode ∧ e.mode ≤ 4095 := by
    unfold refuse chk at h2
    repeat' split at h2
    all_goals first | omega | simp_all
    all_goals omega
  exact ⟨by omega, by omega, hm.1, by omega, ht, by omega⟩
theorem wre_all {es : List En} (h : (chkE es).2 = 0) (ht : ∀ e ∈ es, (joinP e.path).size ≤ 900) : es.length ≤ 40 ∧ ∀ e ∈ es, WrE e := by
  have h40 : es.length ≤ 40 := by
    rcases Nat.lt_or_ge 40 es.length with h1 | h1
    · unfold chkE at h
      rw [if_pos h1] at h
      cases h
    · exact h1
  obtain ⟨h1, h2, h3⟩ := chkE_spec h40
  refine ⟨h40, fun e he => ?_⟩
  obtain ⟨i, hi⟩ := List.getElem?_of_mem he
  have hl := (List.getElem?_eq_some_iff.1 hi).1
  exact wre_of (h2 i e (by rw [h3 h]; exact hl) hi) (ht e he)
set_option maxHeartbeats 1000000 in
theorem encode12_any (w : World) (hV : PV w) (hK : Roots Ks w) (A : Option Addr) (n c : Nat) (xs : List Ev) (es : List En) (h : EIn w A n c xs es) (ht : ∀ e ∈ es, (joinP e.path).size ≤ 900) :
    Calls Tryz.prog 11 #[.slice A n c] w fun e w' => Below w.heap.size w w' ∧ (((chkE es).2 = 0 ∧ ∃ B d, e = .returned (.tuple #[.slice B (arcB n es).length d, .int .i64 0]) ∧ DIn w' B (arcB n es).length d (arcB n es) ∧ w'.ownsRow w.heap.size 5 1 (.slice B (arcB n es).length d) (arcB n es).length (Vb (arcB n es))) ∨ ((chkE es).2 ≠ 0 ∧ e = .returned (.tuple #[.slice none 0 0, .int .i64 (chkE es).2]))) := by
  have HC := Lib.hid (check_arch w hV A n c xs es h)
  have H := Lib.hid (And.intro h (And.intro hK ht))
  have HL := Lib.hid h.elen
  clear h hK ht hV
  obtain ⟨z, hz⟩ : ∃ z, (chkE es).2 = z := ⟨_, rfl⟩
  obtain ⟨k, hk⟩ : ∃ k, (chkE es).1 = k := ⟨_, rfl⟩
  rw [hz, hk] at HC
  have HZ := Lib.hid hz
  rw [hz]
  clear hz hk
  by_cases h0 : z = 0
  · subst h0
    have HW := Lib.hid (wre_all HZ.out H.out.2.2)
    go_enter Tryz.func11, Tryz.ntmps11
    go_wp2_with fail
    refine HC.out.mono ?_
    rintro e w1 ⟨rfl, h1⟩
    have H1 := Lib.hid h1
    clear h1
    go_wp2_with fail
    refine (write12_any w1 (H.out.2.1.below H1.out H.out.2.1.pos) A n c xs es (H.out.1.below H1.out) (by have := HW.out.1; have := HL.out; omega) HW.out.2).mono ?_
    rintro e w2 ⟨B, d, rfl, h2, h3, h4⟩
    have H2 := Lib.hid (And.intro (And.intro h2 (own_base h4 H1.out.size)) (H1.out.trans (h3.mono H1.out.size)))
    clear h2 h3 h4
    go_wp2_with fail
    go_ret2
    exact ⟨H2.out.2, .inl ⟨by first | rfl | trivial, B, d, rfl, H2.out.1.1, H2.out.1.2⟩⟩
  · go_enter Tryz.func11, Tryz.ntmps11
    go_wp2_with fail
    refine HC.out.mono ?_
    rintro e w1 ⟨rfl, h1⟩
    have H1 := Lib.hid h1
    have hb : (z == 0) = false := by simpa using h0
    clear h1
    go_wp2_with fail
    go_ret2
    exact ⟨H1.out, .inr ⟨h0, rfl⟩⟩
end Go.Proofs.YtlpljedacohngaaGreatDoor
end
