/-
  The memory words of this seat: a block known whole, a frame that lets a set of blocks turn, bytes as cells. Plain theorems on worlds; no condition.
-/
import Derived.WalkKit
import Derived.WalkSpells
import Derived.WalkLawsBesides
import Derived.Deep.Draws
import Derived.WalkSmall
import Derived.Test.YtkmkblhmjeeaeaaGreatDoorProg
import Derived.Deep.MidRow
import Derived.Lib.Hide
import Derived.BigRegion
import Derived.BigQuiet
import Derived.Deep.WholeRow
section
set_option maxRecDepth 100000
set_option linter.unusedSimpArgs false
set_option linter.unusedVariables false
namespace Go.Proofs.YtkmkblhmjeeaeaaGreatDoor
open Go.RowKit

/-- Block g is just the cells cs of element type t, none frozen. -/
def Blk (w : World) (g : Nat) (t : TypeId) (cs : List Value) : Prop := w.heap[g]? = some (.cells cs.toArray t (0, 0))

/-- What was there has turned in the blocks of S alone. -/
structure Only (S : List Nat) (w w' : World) : Prop where
  os : w'.os = w.os
  tape : w'.tape = w.tape
  output : w'.output = w.output
  size : w.heap.size ≤ w'.heap.size
  block : ∀ k, k < w.heap.size → k ∉ S → w'.heap[k]? = w.heap[k]?

section
variable {w w' : World} {g : Nat} {t : TypeId} {cs : List Value} {S T : List Nat}
theorem Blk.lt (h : Blk w g t cs) : g < w.heap.size := by
  rcases Nat.lt_or_ge g w.heap.size with hlt | hge
  · exact hlt
  · unfold Blk at h; rw [Array.getElem?_eq_none hge] at h; cases h
theorem Blk.cell (h : Blk w g t cs) (i : Nat) : w.cell? ⟨g, i, none⟩ = cs[i]? := by
  have := cell_of_row w g i _ t (0, 0) h
  simpa using this
theorem Blk.frozen (h : Blk w g t cs) (i : Nat) : w.frozen? ⟨g, i, none⟩ = false := by
  unfold Blk at h
  simp [World.frozen?, h]
theorem Blk.new (w : World) (t : TypeId) (cs : List Value) : Blk (w.alloc (.cells cs.toArray t)) w.heap.size t cs := heap_alloc_new w _
theorem Blk.drew (h : Blk w g t cs) : Blk w.drew g t cs := h
theorem Blk.drewN (h : Blk w g t cs) (n : Nat) : Blk (w.drewN n) g t cs := h
theorem Blk.alloc (h : Blk w g t cs) (o : Obj) : Blk (w.alloc o) g t cs := (Below.heap_alloc w o g h.lt).trans h
theorem Blk.set_ (h : Blk w g t cs) (i : Nat) (u : Value) : Blk (w.setCell ⟨g, i, none⟩ u) g t (cs.set i u) := by
  unfold Blk at h ⊢
  simp [World.setCell, Array.getElem?_modify, h]
theorem Blk.far (h : Blk w g t cs) {p : Addr} (hp : g ≠ p.block) (u : Value) : Blk (w.setCell p u) g t cs := (Below.heap_setCell w p u g hp).trans h
theorem Blk.only (h : Blk w g t cs) (hb : Only S w w') (hg : g ∉ S) : Blk w' g t cs := (hb.block g h.lt hg).trans h
theorem Blk.below {B : Nat} (h : Blk w g t cs) (hb : Below B w w') (hg : g < B) : Blk w' g t cs := (hb.block g hg).trans h
theorem Blk.grown {row : Option Nat} (h : Blk w g t cs) (hb : w.grownBy w' row) (hg : some g ≠ row) : Blk w' g t cs := (hb.block g h.lt hg).trans h
theorem Blk.same {cs' : List Value} {t' : TypeId} (h : Blk w g t cs) (h' : Blk w g t' cs') : t = t' ∧ cs = cs' := by
  unfold Blk at h h'
  rw [h] at h'
  injection h' with h'
  injection h' with hc ht
  exact ⟨ht, by simpa using hc⟩
theorem Blk.ne_ {g' : Nat} {t' : TypeId} {cs' : List Value} (h : Blk w g t cs) (h' : Blk w g' t' cs') (hne : t ≠ t') : g ≠ g' := by
  rintro rfl
  exact hne (h.same h').1
theorem own_blk_ne {base : Nat} {e : TypeId} {size n : Nat} {v : Value} {xs : List Value} (h : w.ownsRow base e size v n xs) (hg : Blk w g t cs) (hne : e ≠ t) : v.ownBlock ≠ some g := by
  rcases h.2 with ⟨rfl, _⟩ | ⟨g', cap, cur, rfl, _, hh, _⟩
  · simp [Value.ownBlock]
  · intro he
    have : g' = g := by simpa [Value.ownBlock] using he
    subst this
    unfold Blk at hg
    rw [hg] at hh
    injection hh with hh
    injection hh with _ ht
    exact hne ht.symm

theorem Only.refl (S : List Nat) (w : World) : Only S w w := ⟨rfl, rfl, rfl, Nat.le_refl _, fun _ _ _ => rfl⟩
theorem Only.trans {a b c : World} (h : Only S a b) (k : Only S b c) : Only S a c :=
  ⟨k.os.trans h.os, k.tape.trans h.tape, k.output.trans h.output, Nat.le_trans h.size k.size, fun i hi hs => (k.block i (Nat.lt_of_lt_of_le hi h.size) hs).trans (h.block i hi hs)⟩
theorem Only.mono (h : Only S w w') (hst : ∀ k, k ∈ S → k < w.heap.size → k ∈ T) : Only T w w' :=
  ⟨h.os, h.tape, h.output, h.size, fun i hi ht => h.block i hi fun hs => ht (hst i hs hi)⟩
theorem Only.drew {a : World} (h : Only S a w) : Only S a w.drew := ⟨h.os, h.tape, h.output, h.size, h.block⟩
theorem Only.drewN {a : World} (h : Only S a w) (n : Nat) : Only S a (w.drewN n) := ⟨h.os, h.tape, h.output, h.size, h.block⟩
theorem Only.alloc {a : World} (h : Only S a w) (o : Obj) : Only S a (w.alloc o) :=
  ⟨h.os, h.tape, h.output, Nat.le_trans h.size (by simp), fun i hi hs => (Below.heap_alloc w o i (Nat.lt_of_lt_of_le hi h.size)).trans (h.block i hi hs)⟩
theorem Only.setCell {a : World} (h : Only S a w) {p : Addr} (hp : p.block ∈ S ∨ a.heap.size ≤ p.block) (u : Value) : Only S a (w.setCell p u) :=
  ⟨h.os, h.tape, h.output, by simpa [World.setCell] using h.size, fun i hi hs => (Below.heap_setCell w p u i (by
    rintro rfl
    rcases hp with hp | hp
    · exact hs hp
    · omega)).trans (h.block i hi hs)⟩
theorem Only.setRow {a : World} (h : Only S a w) {g : Nat} (hp : g ∈ S ∨ a.heap.size ≤ g) (cur : Array Value) : Only S a (w.setRow g cur) :=
  ⟨h.os, h.tape, h.output, by simpa [World.setRow] using h.size, fun i hi hs => (setRow_other w g i cur (by
    rintro rfl
    rcases hp with hp | hp
    · exact hs hp
    · omega)).trans (h.block i hi hs)⟩
theorem Only.grown {a : World} {row : Option Nat} (h : Only S a w) (hg : w.grownBy w' row) (hr : ∀ k, row = some k → k ∈ S ∨ a.heap.size ≤ k) : Only S a w' :=
  ⟨hg.os.trans h.os, hg.tape.trans h.tape, hg.output.trans h.output, Nat.le_trans h.size hg.size, fun i hi hs => (hg.block i (Nat.lt_of_lt_of_le hi h.size) (fun e => by
    rcases hr i e.symm with hr | hr
    · exact hs hr
    · omega)).trans (h.block i hi hs)⟩
theorem Only.of_below (h : Below w.heap.size w w') : Only S w w' := ⟨h.os, h.tape, h.output, h.size, fun i hi _ => h.block i hi⟩
theorem Only.below {B : Nat} (h : Only S w w') (hB : B ≤ w.heap.size) (hS : ∀ k, k ∈ S → B ≤ k) : Below B w w' :=
  ⟨h.os, h.tape, h.output, h.size, fun k hk => h.block k (by omega) fun hs => by have := hS k hs; omega⟩
theorem ownsRow_only {base : Nat} {e : TypeId} {size n : Nat} {v : Value} {xs : List Value} (h : w.ownsRow base e size v n xs) (hb : Only S w w') (hS : ∀ k, v.ownBlock = some k → k ∉ S) : w'.ownsRow base e size v n xs := by
  refine ⟨h.1, ?_⟩
  rcases h.2 with hn | ⟨g, cap, cur, rfl, hbg, hgg, rest⟩
  · exact .inl hn
  · refine .inr ⟨g, cap, cur, rfl, hbg, ?_, rest⟩
    rw [hb.block g (Array.getElem?_eq_some_iff.1 hgg).1 (hS g rfl)]
    exact hgg
end

/-- Bytes as cells. -/
def U (xs : List Int) : List Value := xs.map (Value.int .u8)
theorem U_length (xs : List Int) : (U xs).length = xs.length := by simp [U]
theorem U_get (xs : List Int) (i : Nat) : (U xs)[i]? = xs[i]?.map (Value.int .u8) := by simp [U]
theorem U_append (xs ys : List Int) : U (xs ++ ys) = U xs ++ U ys := by simp [U]
theorem U_take (xs : List Int) (n : Nat) : (U xs).take n = U (xs.take n) := by simp [U]
theorem U_drop (xs : List Int) (n : Nat) : (U xs).drop n = U (xs.drop n) := by simp [U]
theorem U_oneCell (xs : List Int) : ∀ u ∈ U xs, u.oneCell' = true := by
  intro u hu
  simp only [U, List.mem_map] at hu
  obtain ⟨x, _, rfl⟩ := hu
  rfl
theorem U_inj {xs ys : List Int} (h : U xs = U ys) : xs = ys := by
  unfold U at h
  exact (List.map_inj_right (by intro a b hab; injection hab)).1 h

end Go.Proofs.YtkmkblhmjeeaeaaGreatDoor
end

/-
  The memory words of this seat: those of BMem. No condition.
-/

section

end

/-
  Words of 32 bits: what the machine's operations on them are. Plain definitions and theorems; no condition.
-/

section
set_option maxRecDepth 100000
set_option linter.unusedSimpArgs false
set_option linter.unusedVariables false
namespace Go.Proofs.YtkmkblhmjeeaeaaGreatDoor
open Go.RowKit

abbrev B32 := BitVec 32
abbrev B8 := BitVec 8

/-- A word as the machine's number. -/
def nw (x : B32) : Int := (x.toNat : Int)
def nb (x : B8) : Int := (x.toNat : Int)
theorem nw_bound (x : B32) : 0 ≤ nw x ∧ nw x < 4294967296 := by
  have := x.isLt
  unfold nw
  omega
theorem nb_bound (x : B8) : 0 ≤ nb x ∧ nb x < 256 := by
  have := x.isLt
  unfold nb
  omega
theorem nw_inj {x y : B32} (h : nw x = nw y) : x = y := by
  unfold nw at h
  exact BitVec.eq_of_toNat_eq (by omega)
theorem nb_inj {x y : B8} (h : nb x = nb y) : x = y := by
  unfold nb at h
  exact BitVec.eq_of_toNat_eq (by omega)
theorem ofInt_nw (x : B32) : BitVec.ofInt 32 (nw x) = x := by unfold nw; simp
theorem ofInt_nb (x : B8) : BitVec.ofInt 8 (nb x) = x := by unfold nb; simp
theorem wrap_u32 (n : Int) : IntKind.u32.wrap n = nw (BitVec.ofInt 32 n) := by
  unfold nw
  rw [BitVec.toNat_ofInt]
  simp [IntKind.wrap, IntKind.signed, IntKind.bits]
  omega
theorem wrap_u8 (n : Int) : IntKind.u8.wrap n = nb (BitVec.ofInt 8 n) := by
  unfold nb
  rw [BitVec.toNat_ofInt]
  simp [IntKind.wrap, IntKind.signed, IntKind.bits]
  omega
theorem add_u32 (x y : B32) : IntKind.u32.wrap (nw x + nw y) = nw (x + y) := by
  rw [wrap_u32, BitVec.ofInt_add, ofInt_nw, ofInt_nw]
theorem xor_u32 (x y : B32) : bits .xor .u32 (nw x) (nw y) = nw (x ^^^ y) := by
  unfold bits
  simp only [IntKind.bits, ofInt_nw]
  exact (wrap_u32 _).trans (congrArg nw (ofInt_nw _))
theorem and_u32 (x y : B32) : bits .and .u32 (nw x) (nw y) = nw (x &&& y) := by
  unfold bits
  simp only [IntKind.bits, ofInt_nw]
  exact (wrap_u32 _).trans (congrArg nw (ofInt_nw _))
theorem or_u32 (x y : B32) : bits .or .u32 (nw x) (nw y) = nw (x ||| y) := by
  unfold bits
  simp only [IntKind.bits, ofInt_nw]
  exact (wrap_u32 _).trans (congrArg nw (ofInt_nw _))
theorem not_u32 (x : B32) : bits .xor .u32 IntKind.u32.max (nw x) = nw (~~~x) := by
  have : IntKind.u32.max = nw (BitVec.allOnes 32) := by decide
  rw [this, xor_u32, BitVec.allOnes_xor]
theorem shr_u32 (x : B32) (k : Nat) : (nw x).fdiv (2 ^ k) = nw (x >>> k) := by
  unfold nw
  rw [BitVec.toNat_ushiftRight, Nat.shiftRight_eq_div_pow, Int.fdiv_eq_ediv_of_nonneg _ (Int.le_of_lt (Int.pow_pos (by omega)))]
  norm_cast
theorem shl_u32 (x : B32) (k : Nat) : IntKind.u32.wrap (nw x * 2 ^ k) = nw (x <<< k) := by
  rw [wrap_u32, BitVec.shiftLeft_eq_mul_twoPow, BitVec.ofInt_mul, ofInt_nw]
  congr 2
  apply BitVec.eq_of_toNat_eq
  rw [BitVec.toNat_ofInt, BitVec.toNat_twoPow]
  norm_cast

theorem div_u32 (x : B32) (k : Nat) : nw x / 2 ^ k = nw (x >>> k) := by
  rw [← shr_u32, Int.fdiv_eq_ediv_of_nonneg _ (Int.le_of_lt (Int.pow_pos (by omega)))]
theorem div_3 (x : B32) : nw x / (8 : Int) = nw (x >>> 3) := div_u32 x 3
theorem div_8 (x : B32) : nw x / (256 : Int) = nw (x >>> 8) := div_u32 x 8
theorem div_10 (x : B32) : nw x / (1024 : Int) = nw (x >>> 10) := div_u32 x 10
theorem div_16 (x : B32) : nw x / (65536 : Int) = nw (x >>> 16) := div_u32 x 16
theorem div_24 (x : B32) : nw x / (16777216 : Int) = nw (x >>> 24) := div_u32 x 24
theorem low_u8 (x : B32) : IntKind.u8.wrap (nw x) = nb (x.setWidth 8) := by
  rw [wrap_u8]
  congr 1
theorem mod_u8 (x : B32) : nw x % 256 = nb (x.setWidth 8) := by
  rw [← low_u8]
  simp [IntKind.wrap, IntKind.signed, IntKind.bits]
/-- A byte as a word, moved to the left. -/
def up (b : B8) (k : Nat) : B32 := (b.setWidth 32) <<< k
theorem wide_u32 (b : B8) : nb b = nw (b.setWidth 32) := by
  unfold nb nw
  rw [BitVec.toNat_setWidth]
  have := b.isLt
  omega
theorem up_u32 (b : B8) (k : Nat) : IntKind.u32.wrap (nb b * 2 ^ k) = nw (up b k) := by
  rw [wide_u32, shl_u32]; rfl

/-- Turned to the right. -/
def rr (x : B32) (k : Nat) : B32 := (x <<< (32 - k)) ||| (x >>> k)
theorem rr_eq (x : B32) (k : Nat) : rr x k = (x <<< (32 - k)) ||| (x >>> k) := rfl

attribute [irreducible] nw nb up rr

end Go.Proofs.YtkmkblhmjeeaeaaGreatDoor
end

/-
  The words of a block's steps, as plain lists. No condition.
-/

section
set_option maxRecDepth 100000
set_option linter.unusedSimpArgs false
set_option linter.unusedVariables false
namespace Go.Proofs.YtkmkblhmjeeaeaaGreatDoor
open Go.RowKit

/-- Words and bytes as cells. -/
def Wd (xs : List B32) : List Value := xs.map fun x => .int .u32 (nw x)
def Vb (xs : List B8) : List Value := xs.map fun x => .int .u8 (nb x)
theorem Wd_length (xs : List B32) : (Wd xs).length = xs.length := by simp [Wd]
theorem Vb_length (xs : List B8) : (Vb xs).length = xs.length := by simp [Vb]
theorem Wd_get (xs : List B32) (i : Nat) : (Wd xs)[i]? = xs[i]?.map fun x => .int .u32 (nw x) := by simp [Wd]
theorem Vb_get (xs : List B8) (i : Nat) : (Vb xs)[i]? = xs[i]?.map fun x => .int .u8 (nb x) := by simp [Vb]
theorem Wd_append (xs ys : List B32) : Wd (xs ++ ys) = Wd xs ++ Wd ys := by simp [Wd]
theorem Vb_append (xs ys : List B8) : Vb (xs ++ ys) = Vb xs ++ Vb ys := by simp [Vb]
theorem Vb_take (xs : List B8) (n : Nat) : (Vb xs).take n = Vb (xs.take n) := by simp [Vb]
theorem Vb_drop (xs : List B8) (n : Nat) : (Vb xs).drop n = Vb (xs.drop n) := by simp [Vb]
theorem Vb_oneCell (xs : List B8) : ∀ u ∈ Vb xs, u.oneCell' = true := by
  intro u hu
  simp only [Vb, List.mem_map] at hu
  obtain ⟨x, _, rfl⟩ := hu
  rfl
theorem Wd_oneCell (xs : List B32) : ∀ u ∈ Wd xs, u.oneCell' = true := by
  intro u hu
  simp only [Wd, List.mem_map] at hu
  obtain ⟨x, _, rfl⟩ := hu
  rfl

/-- Word i of a block. -/
def word4 (bs : List B8) (i : Nat) : B32 :=
  up (bs.getD (4 * i) 0) 24 ||| up (bs.getD (4 * i + 1) 0) 16 ||| up (bs.getD (4 * i + 2) 0) 8 ||| (bs.getD (4 * i + 3) 0).setWidth 32
theorem word4_eq (bs : List B8) (i : Nat) : word4 bs i =
  (up (bs.getD (4 * i) 0) 24 ||| up (bs.getD (4 * i + 1) 0) 16 ||| up (bs.getD (4 * i + 2) 0) 8 ||| (bs.getD (4 * i + 3) 0).setWidth 32) := rfl
def far (x : B32) : B32 := rr x 7 ^^^ rr x 18 ^^^ (x >>> 3)
def near (x : B32) : B32 := rr x 17 ^^^ rr x 19 ^^^ (x >>> 10)
/-- The next word, made of those ahead of it. -/
def nextW (l : List B32) : B32 := l.getD (l.length - 16) 0 + far (l.getD (l.length - 15) 0) + l.getD (l.length - 7) 0 + near (l.getD (l.length - 2) 0)
/-- The first k words of a block's own. -/
def own16 (bs : List B8) : Nat → List B32
  | 0 => []
  | k + 1 => own16 bs k ++ [word4 bs k]
/-- k words more. -/
def more (l : List B32) : Nat → List B32
  | 0 => l
  | k + 1 => more l k ++ [nextW (more l k)]
def sched (bs : List B8) : List B32 := more (own16 bs 16) 48
theorem own16_length (bs : List B8) : ∀ k, (own16 bs k).length = k
  | 0 => rfl
  | k + 1 => by simp [own16, own16_length bs k]
theorem more_length (l : List B32) : ∀ k, (more l k).length = l.length + k
  | 0 => rfl
  | k + 1 => by simp [more, more_length l k]; omega
theorem sched_length (bs : List B8) : (sched bs).length = 64 := by simp [sched, more_length, own16_length]

/-- Words, and behind them the rest of an array of 64, still nought. -/
def part (l : List B32) : List Value := Wd l ++ List.replicate (64 - l.length) (.int .u32 0)
theorem part_length {l : List B32} (h : l.length ≤ 64) : (part l).length = 64 := by simp [part, Wd_length]; omega
theorem part_set {l : List B32} (h : l.length < 64) (x : B32) : (part l).set l.length (.int .u32 (nw x)) = part (l ++ [x]) := by
  unfold part
  rw [List.set_append_right _ _ (by rw [Wd_length]; omega), Wd_length, Nat.sub_self, Wd_append]
  obtain ⟨m, hm⟩ : ∃ m, 64 - l.length = m + 1 := ⟨64 - l.length - 1, by omega⟩
  rw [hm, List.replicate_succ, List.set_cons_zero, List.append_assoc]
  have : 64 - (l ++ [x]).length = m := by simp; omega
  rw [this]
  rfl
theorem part_get {l : List B32} {i : Nat} (h : i < l.length) : (part l)[i]? = some (.int .u32 (nw (l.getD i 0))) := by
  unfold part
  rw [List.getElem?_append_left (by rw [Wd_length]; omega), Wd_get, List.getD_eq_getElem?_getD, List.getElem?_eq_getElem h]
  rfl
theorem part_next {l : List B32} (h : l.length < 64) : (part l)[l.length]? = some (.int .u32 0) := by
  unfold part
  rw [List.getElem?_append_right (by rw [Wd_length]; omega), Wd_length, Nat.sub_self, List.getElem?_replicate]
  rw [if_pos (by omega)]
theorem part_oneCell (l : List B32) : ∀ u ∈ part l, u.oneCell' = true := by
  intro u hu
  rcases List.mem_append.1 hu with h | h
  · exact Wd_oneCell l u h
  · rw [(List.mem_replicate.1 h).2]; rfl
theorem part_whole (l : List B32) (h : l.length = 64) : part l = Wd l := by simp [part, h]

end Go.Proofs.YtkmkblhmjeeaeaaGreatDoor
end

/-
  Whole arrays and structs out of and into a block that is known whole. Plain theorems; conditions: the block is known.
-/

section
set_option maxRecDepth 100000
set_option linter.unusedSimpArgs false
set_option linter.unusedVariables false
namespace Go.Proofs.YtkmkblhmjeeaeaaGreatDoor
open Go.RowKit

section
variable {w : World} {g : Nat} {t : TypeId} {cs : List Value}
theorem Blk.rangeAt (h : Blk w g t cs) (o n : Nat) : w.rangeAt g o ((cs.drop o).take n) := by
  intro j v hv
  rw [h.cell]
  rw [List.getElem?_take] at hv
  split at hv
  · rw [List.getElem?_drop] at hv
    exact hv
  · cases hv
theorem Blk.range (h : Blk w g t cs) : w.rangeAt g 0 cs := by
  intro j v hv
  rw [h.cell, Nat.zero_add]
  exact hv
theorem Blk.there (h : Blk w g t cs) {o n : Nat} (hn : o + n ≤ cs.length) : w.there g o n := by
  intro j hj
  refine ⟨?_, h.frozen _⟩
  rw [h.cell, List.getElem?_eq_getElem (by omega)]
  rfl
/-- vs over the cells from o on. -/
def over (cs : List Value) (o : Nat) (vs : List Value) : List Value := cs.take o ++ vs ++ cs.drop (o + vs.length)
theorem over_length {o : Nat} {vs : List Value} (h : o + vs.length ≤ cs.length) : (over cs o vs).length = cs.length := by
  simp [over]; omega
theorem over_cons {o : Nat} {v : Value} {vs : List Value} (h : o < cs.length) : over (cs.set o v) (o + 1) vs = over cs o (v :: vs) := by
  unfold over
  have e1 : (cs.set o v).take (o + 1) = cs.take o ++ [v] := by
    apply List.ext_getElem?
    intro i
    rw [List.getElem?_take]
    by_cases hi : i < o
    · rw [if_pos (by omega), List.getElem?_set_ne (by omega), List.getElem?_append_left (by simp; omega), List.getElem?_take, if_pos hi]
    · by_cases he : i = o
      · subst he
        rw [if_pos (by omega), List.getElem?_set_self h, List.getElem?_append_right (by simp; omega)]
        simp [Nat.min_eq_left (Nat.le_of_lt h)]
      · rw [if_neg (by omega), List.getElem?_eq_none (by simp; omega)]
  have e2 : (cs.set o v).drop (o + 1 + vs.length) = cs.drop (o + (v :: vs).length) := by
    rw [List.drop_set_of_lt (by omega), List.length_cons]
    congr 1
    omega
  rw [e1, e2]
  simp
theorem Blk.setCells : ∀ (vs : List Value) {w : World} {cs : List Value} (o : Nat), Blk w g t cs → o + vs.length ≤ cs.length → Blk (w.setCells g o vs) g t (over cs o vs)
  | [], w, cs, o, h, _ => by
    have : over cs o [] = cs := by simp [over]
    rw [this]; exact h
  | v :: vs, w, cs, o, h, hl => by
    rw [List.length_cons] at hl
    have := Blk.setCells vs (o + 1) (h.set_ o v) (by rw [List.length_set]; omega)
    rw [over_cons (by omega)] at this
    exact this
theorem Only.setCells {S : List Nat} {a : World} : ∀ (vs : List Value) {w : World} (g o : Nat), Only S a w → (g ∈ S ∨ a.heap.size ≤ g) → Only S a (w.setCells g o vs)
  | [], _, _, _, h, _ => h
  | v :: vs, _, g, o, h, hg => Only.setCells vs g (o + 1) (h.setCell (p := ⟨g, o, none⟩) hg v) hg
end

/-- A whole value stored into a block that is known: the world behind it under a name of its own. -/
theorem wpList_store_blk {P : Program} {ops : Array Oper} {rest : List Oper} {op : Oper} {a : Act} {w : World} {Q : Exit → Act → World → Prop} (hgd : op.guard = none) (ty : TypeId) (x y : Operand) (ho : op.op = .store ty x y)
    (b o : Nat) (vs : List Value) (hx : a.eval x = .pointer (some ⟨b, o, none⟩)) (hy : a.eval y = .agg vs.toArray) {t : TypeId} {cs : List Value}
    (hb : Blk w b t cs) (hn : o + vs.length ≤ cs.length) (hi : (P.info? ty).map (·.size) = some vs.length) (h1 : ∀ u ∈ vs, u.oneCell' = true)
    (h : ∀ w', Blk w' b t (over cs o vs) → Only [b] w w' → wpList P ops Q rest (a.put op.dst undef) w') : wpList P ops Q (op :: rest) a w := by
  refine wpList_store_mid hgd ty x y ho b o vs.toArray hx hy (hb.there (by simpa using hn)) (by simpa using hi) (all_oneCell_toArray h1) ?_
  exact h _ (hb.setCells vs o hn) (Only.setCells vs b o (Only.refl _ _) (.inl (by simp)))
/-- One number stored into a block that is known: the world behind it under a name of its own. -/
theorem wpList_store_one {P : Program} {ops : Array Oper} {rest : List Oper} {op : Oper} {a : Act} {w : World} {Q : Exit → Act → World → Prop} (hgd : op.guard = none) (ty : TypeId) (x y : Operand) (ho : op.op = .store ty x y)
    (b o : Nat) (k : IntKind) (n : Int) (hx : a.eval x = .pointer (some ⟨b, o, none⟩)) (hy : a.eval y = .int k n) {t : TypeId} {cs : List Value}
    (hb : Blk w b t cs) (hn : o < cs.length) (hi : (P.info? ty).map (·.size) = some 1)
    (h : ∀ w', Blk w' b t (cs.set o (.int k n)) → Only [b] w w' → wpList P ops Q rest (a.put op.dst undef) w') : wpList P ops Q (op :: rest) a w := by
  have ht := hb.there (o := o) (n := 1) (by omega)
  have hst := run_storeCells_cells (P := P) b o [.int k n] 0 w (fun j hj => by simpa using (ht j (by simpa using hj)).1) (fun j hj => by simpa using (ht j (by simpa using hj)).2)
    (fun v hv => by simp at hv; subst hv; rfl)
  have hs : (storeVar ty ⟨b, o, none⟩ (.int k n)).run P w = .ok () (w.setCell ⟨b, o, none⟩ (.int k n)) := by
    cases hq : P.info? ty with
    | none => simp [hq] at hi
    | some i =>
      have hs : i.size = 1 := by simpa [hq] using hi
      simp only [Nat.add_zero] at hst
      simp [storeVar, sizeOf, typeInfo, hq, Value.cells, hs, hst, World.setCells]
  refine wpList_plain hgd fun K hK => ?_
  unfold Oper.wp execOp
  simp only [ho, hx, hy, Instr.storeAt, Instr.sureAddr, Sem.run_bind, Sem.run_pure, Result.andThen_ok, hs]
  exact hK _ _ (h _ (hb.set_ o _) ((Only.refl _ _).setCell (p := ⟨b, o, none⟩) (.inl (by simp)) _))
theorem over_whole {cs vs : List Value} (h : vs.length = cs.length) : over cs 0 vs = vs := by
  unfold over
  rw [List.drop_eq_nil_of_le (by omega)]
  simp

/-- A result that lies in a cell of the call's own. -/
theorem ret_cell {P : Program} {fn : Func} {p : Tmp} {ty : TypeId} (h : fn.results = #[.cell p ty]) {tmps : Array Value} {w : World} {a : Addr} {v : Value} (ht : tmps.getD p undef = .pointer (some a)) (hl : (loadVar ty a).run P w = .ok v w) :
    (results fn tmps).run P w = .ok v w := by
  have ht' : tmps[p]?.getD undef = .pointer (some a) := by simpa using ht
  simp only [results, h]
  simp [ht', asAddr, hl]

theorem info5 : (Tryz.prog.info? 5).map (·.size) = some 1 := by kernel_rfl
theorem info74 : (Tryz.prog.info? 237).map (·.size) = some 64 := by kernel_rfl
theorem info31 : (Tryz.prog.info? 168).map (·.size) = some 32 := by kernel_rfl
theorem info44 : (Tryz.prog.info? 198).map (·.size) = some 73 := by kernel_rfl
theorem info41 : (Tryz.prog.info? 196).map (·.size) = some 8 := by kernel_rfl

end Go.Proofs.YtkmkblhmjeeaeaaGreatDoor
end

/-
  The small functions of words: each is plain arithmetic. No condition.
-/

section
set_option maxRecDepth 100000
set_option linter.unusedSimpArgs false
set_option linter.unusedVariables false
namespace Go.Proofs.YtkmkblhmjeeaeaaGreatDoor
open Go.RowKit

attribute [local go_sem] add_u32 xor_u32 and_u32 or_u32 not_u32 shl_u32 shr_u32 div_u32 div_8 div_3 div_16 div_10 div_24

theorem rot_any (w : World) (x : B32) (k : Int) (s : Nat) (hk : bits .and .u64 (IntKind.u64.wrap k) 31 = s) (hs : s ≤ 31) : Calls Tryz.prog 174 #[.int .u32 (nw x), .int .i64 k] w fun e w' => e = .returned (.int .u32 (nw ((x <<< s) ||| (x >>> (32 - s))))) ∧ w = w' := by
  have hx := nw_bound x
  go_enter Tryz.func174, Tryz.ntmps174
  go_wp2
  go_ret
  exact ⟨rfl, rfl⟩

/-- A turn to the right by k. -/
theorem rot_right (w : World) (x : B32) (k : Nat) (hk : 1 ≤ k ∧ k ≤ 31) : Calls Tryz.prog 174 #[.int .u32 (nw x), .int .i64 (-(k : Int))] w fun e w' => e = .returned (.int .u32 (nw (rr x k))) ∧ w = w' := by
  have h : ∀ k : Nat, k < 32 → 1 ≤ k → bits .and .u64 (IntKind.u64.wrap (-(k : Int))) 31 = ((32 - k : Nat) : Int) := by decide +kernel
  refine (rot_any w x (-(k : Int)) (32 - k) (h k (by omega) hk.1) (by omega)).mono ?_
  rintro e w' ⟨rfl, rfl⟩
  exact ⟨by rw [show 32 - (32 - k) = k by omega, ← rr_eq], rfl⟩

theorem chosen_any (w : World) (x y z : B32) : Calls Tryz.prog 163 #[.int .u32 (nw x), .int .u32 (nw y), .int .u32 (nw z)] w fun e w' => e = .returned (.int .u32 (nw ((x &&& y) ^^^ (~~~x &&& z)))) ∧ w = w' := by
  go_enter Tryz.func163, Tryz.ntmps163
  go_wp2
  go_ret
  exact ⟨rfl, rfl⟩

theorem most_any (w : World) (x y z : B32) : Calls Tryz.prog 164 #[.int .u32 (nw x), .int .u32 (nw y), .int .u32 (nw z)] w fun e w' => e = .returned (.int .u32 (nw ((x &&& y) ^^^ (x &&& z) ^^^ (y &&& z)))) ∧ w = w' := by
  go_enter Tryz.func164, Tryz.ntmps164
  go_wp2
  go_ret
  exact ⟨rfl, rfl⟩

theorem around_any (w : World) (x : B32) (a b c : Nat) (ha : 1 ≤ a ∧ a ≤ 31) (hb : 1 ≤ b ∧ b ≤ 31) (hc : 1 ≤ c ∧ c ≤ 31) : Calls Tryz.prog 162 #[.int .u32 (nw x), .int .i64 a, .int .i64 b, .int .i64 c] w fun e w' => e = .returned (.int .u32 (nw (rr x a ^^^ rr x b ^^^ rr x c))) ∧ w = w' := by
  go_enter Tryz.func162, Tryz.ntmps162
  go_wp2_with (go_at_call 174; refine (rot_right _ x _ (by assumption)).mono ?_; rintro e w' ⟨rfl, rfl⟩)
  go_ret
  exact ⟨rfl, rfl⟩

end Go.Proofs.YtkmkblhmjeeaeaaGreatDoor
end

/-
  spread: a block's words. Conditions: 64 bytes, each cell there.
-/

section
set_option maxRecDepth 100000
set_option linter.unusedSimpArgs false
set_option linter.unusedVariables false
namespace Go.Proofs.YtkmkblhmjeeaeaaGreatDoor
open Go.RowKit

attribute [local go_sem] add_u32 xor_u32 and_u32 or_u32 not_u32 shl_u32 shr_u32 div_u32 div_8 div_3 div_16 div_10 div_24

theorem blk_two (w : World) (t u : TypeId) (cs ds : List Value) : Blk ((w.alloc (.cells cs.toArray t)).alloc (.cells ds.toArray u)) (w.heap.size + 1) u ds := by
  have := Blk.new (w.alloc (.cells cs.toArray t)) u ds
  simpa using this

theorem getD_append_left {α : Type} {l m : List α} {i : Nat} {d : α} (h : i < l.length) : (l ++ m).getD i d = l.getD i d := by
  simp [List.getD_eq_getElem?_getD, List.getElem?_append_left h]

theorem word4_cells (b0 b1 b2 b3 : B8) : bits .or .u32 (bits .or .u32 (bits .or .u32 (nb b0 * 16777216) (nb b1 * 65536)) (nb b2 * 256)) (nb b3) = nw (up b0 24 ||| up b1 16 ||| up b2 8 ||| b3.setWidth 32) := by
  have h0 := nb_bound b0
  have h1 := nb_bound b1
  have h2 := nb_bound b2
  have wr : ∀ n : Int, 0 ≤ n → n < 4294967296 → IntKind.u32.wrap n = n := by
    intro n h h'
    simp [IntKind.wrap, IntKind.signed, IntKind.bits]
    omega
  have e0 : nb b0 * 16777216 = nw (up b0 24) := by rw [← up_u32]; exact (wr _ (by omega) (by omega)).symm
  have e1 : nb b1 * 65536 = nw (up b1 16) := by rw [← up_u32]; exact (wr _ (by omega) (by omega)).symm
  have e2 : nb b2 * 256 = nw (up b2 8) := by rw [← up_u32]; exact (wr _ (by omega) (by omega)).symm
  rw [e0, e1, e2, wide_u32 b3, or_u32, or_u32, or_u32]

theorem own_step {w : World} {B k : Nat} {t : TypeId} {bs : List B8} (h : Blk w B t (part (own16 bs k))) (hk : k < 16) (b0 b1 b2 b3 : B8) (e : word4 bs k = up b0 24 ||| up b1 16 ||| up b2 8 ||| b3.setWidth 32) :
    Blk (w.drew.setCell ⟨B, k, none⟩ (.int .u32 (bits .or .u32 (bits .or .u32 (bits .or .u32 (nb b0 * 16777216) (nb b1 * 65536)) (nb b2 * 256)) (nb b3)))) B t (part (own16 bs (k + 1))) := by
  have hlk := own16_length bs k
  have hps := part_set (l := own16 bs k) (by omega) (word4 bs k)
  rw [hlk, e] at hps
  have := h.drew.set_ k (.int .u32 (nw (up b0 24 ||| up b1 16 ||| up b2 8 ||| b3.setWidth 32)))
  rw [hps] at this
  rw [word4_cells, own16, e]
  exact this
theorem more_step {w : World} {B k : Nat} {t : TypeId} {l : List B32} (h : Blk w B t (part (more l k))) (hl : l.length = 16) (hk : k < 48) (x16 x15 x7 x2 : B32) (e : nextW (more l k) = x16 + far x15 + x7 + near x2) :
    Blk (w.setCell ⟨B, 16 + k, none⟩ (.int .u32 (nw (x16 + (rr x15 7 ^^^ rr x15 18 ^^^ x15 >>> 3) + x7 + (rr x2 17 ^^^ rr x2 19 ^^^ x2 >>> 10))))).drew.drew B t (part (more l (k + 1))) := by
  have hlk := more_length l k
  rw [hl] at hlk
  have hps := part_set (l := more l k) (by omega) (nextW (more l k))
  rw [hlk] at hps
  have := (h.set_ (16 + k) (.int .u32 (nw (nextW (more l k))))).drew.drew
  rw [hps] at this
  rw [e] at this
  rw [more, e]
  exact this

theorem rot_7 (w : World) (x : B32) : Calls Tryz.prog 174 #[.int .u32 (nw x), .int .i64 (-7)] w fun e w' => e = .returned (.int .u32 (nw (rr x 7))) ∧ w = w' := rot_right w x 7 (by omega)
theorem rot_18 (w : World) (x : B32) : Calls Tryz.prog 174 #[.int .u32 (nw x), .int .i64 (-18)] w fun e w' => e = .returned (.int .u32 (nw (rr x 18))) ∧ w = w' := rot_right w x 18 (by omega)
theorem rot_17 (w : World) (x : B32) : Calls Tryz.prog 174 #[.int .u32 (nw x), .int .i64 (-17)] w fun e w' => e = .returned (.int .u32 (nw (rr x 17))) ∧ w = w' := rot_right w x 17 (by omega)
theorem rot_19 (w : World) (x : B32) : Calls Tryz.prog 174 #[.int .u32 (nw x), .int .i64 (-19)] w fun e w' => e = .returned (.int .u32 (nw (rr x 19))) ∧ w = w' := rot_right w x 19 (by omega)

set_option maxHeartbeats 1000000 in
set_option maxRecDepth 100000 in
theorem spread_any (w : World) (g o c : Nat) (bs : List B8) (hcells : ∀ j, j < 64 → w.cell? ⟨g, o + j, none⟩ = some (.int .u8 (nb (bs.getD j 0)))) :
    Calls Tryz.prog 161 #[.slice (some ⟨g, o, none⟩) 64 c] w fun e w' => e = .returned (.agg (Wd (sched bs)).toArray) ∧ Below w.heap.size w w' := by
  have hg : g < w.heap.size := World.block_lt_of_cell? w _ (hcells 0 (by omega))
  have HC := Lib.hid hcells
  clear hcells
  go_enter Tryz.func161, Tryz.ntmps161
  go_wp2_with fail
  go_loopw [8] (fun i wr => ∃ k : Nat, k ≤ 16 ∧ i = .int .i64 k ∧ Blk wr (w.heap.size + 1) 237 (part (own16 bs k)) ∧ Blk wr w.heap.size 237 (List.replicate 64 (.int .u32 0)) ∧ Below w.heap.size w wr) (fun i _ => 16 - (intOf i).toNat)
  case atStart => exact ⟨0, by omega, rfl, blk_two w 237 237 (List.replicate 64 (.int .u32 0)) (List.replicate 64 (.int .u32 0)), (Blk.new w 237 (List.replicate 64 (.int .u32 0))).alloc _, ((Below.refl _ _).alloc (Nat.le_refl _) _).alloc (by simp) _⟩
  case round =>
    obtain ⟨k, hk, rfl, hb1, hb0, hnx⟩ := hrel
    go_wp2_with fail
    · have hk16 : k < 16 := by omega
      have f0 : wr.cell? ⟨g, o + 4 * k, none⟩ = some (.int .u8 (nb (bs.getD (4 * k) 0))) := (hnx.cell hg).trans (HC.out _ (by omega))
      have f1 : wr.cell? ⟨g, o + (4 * k + 1), none⟩ = some (.int .u8 (nb (bs.getD (4 * k + 1) 0))) := (hnx.cell hg).trans (HC.out _ (by omega))
      have f2 : wr.cell? ⟨g, o + (4 * k + 2), none⟩ = some (.int .u8 (nb (bs.getD (4 * k + 2) 0))) := (hnx.cell hg).trans (HC.out _ (by omega))
      have f3 : wr.cell? ⟨g, o + (4 * k + 3), none⟩ = some (.int .u8 (nb (bs.getD (4 * k + 3) 0))) := (hnx.cell hg).trans (HC.out _ (by omega))
      have hlk := own16_length bs k
      have e0 := Lib.hid (word4_eq bs k)
      generalize bs.getD (4 * k) 0 = b0 at f0 e0
      generalize bs.getD (4 * k + 1) 0 = b1 at f1 e0
      generalize bs.getD (4 * k + 2) 0 = b2 at f2 e0
      generalize bs.getD (4 * k + 3) 0 = b3 at f3 e0
      have n0 := nb_bound b0
      have n1 := nb_bound b1
      have n2 := nb_bound b2
      have n3 := nb_bound b3
      have hfz := hb1.frozen k
      have hz : wr.cell? ⟨w.heap.size + 1, k, none⟩ = some (.int .u32 0) := by
        rw [hb1.cell]
        have := part_next (l := own16 bs k) (by omega)
        rwa [hlk] at this
      have HB1 := Lib.hid hb1
      have HB0 := Lib.hid hb0
      have HN := Lib.hid hnx
      clear hb1 hb0 hnx
      go_region
      all_goals go_wp2
      all_goals go_roundw
      case rel =>
        refine ⟨k + 1, by omega, by go_num, ?_, ?_, ?_⟩
        · exact own_step HB1.out hk16 b0 b1 b2 b3 e0
        · exact (HB0.out.drew).far (p := ⟨w.heap.size + 1, _, none⟩) (by simp) _
        · exact HN.out.drew.setCell (p := ⟨w.heap.size + 1, _, none⟩) (by simp) _
      case measure => simp [intOf]; omega
    · have hd16 : decide ((k : Int) < 16) = false := decide_eq_false (by omega)
      rw [hd16]
      rw [show k = 16 by omega] at hb1
      clear hd16
      go_loopw [5] (fun i wr => ∃ k : Nat, k ≤ 48 ∧ i = .int .i64 (16 + k) ∧ Blk wr (w.heap.size + 1) 237 (part (more (own16 bs 16) k)) ∧ Blk wr w.heap.size 237 (List.replicate 64 (.int .u32 0)) ∧ Below w.heap.size w wr) (fun i _ => 64 - (intOf i).toNat)
      case atStart => exact ⟨0, by omega, rfl, hb1, hb0, hnx⟩
      case round =>
        clear hb1 hb0 hnx
        obtain ⟨k, hk, rfl, hb1, hb0, hnx⟩ := hrel
        have hlm := more_length (own16 bs 16) k
        rw [own16_length] at hlm
        have hd : more (own16 bs 16) (k + 1) = more (own16 bs 16) k ++ [nextW (more (own16 bs 16) k)] := rfl
        have hpl : (part (more (own16 bs 16) k)).length = 64 := part_length (by omega)
        go_wp2_with (first
          | (refine wpList_load_mid rfl 237 (.tmp 3) rfl (w.heap.size + 1) 0 rfl _ _ hb1.range Tryz.underlying237 rfl (info74.trans (by rw [hpl])) ?_)
          | (refine wpList_store_mid rfl 237 (.tmp 2) (.tmp 90) rfl w.heap.size 0 _ rfl rfl (hb0.there (by simp [hpl])) (info74.trans (by simp [hpl])) (all_oneCell_toArray (part_oneCell _)) ?_))
        · have hk48 : k < 48 := by omega
          have hg16 := part_get (l := more (own16 bs 16) k) (i := 16 + k - 16) (by omega)
          have hg15 := part_get (l := more (own16 bs 16) k) (i := 16 + k - 15) (by omega)
          have hg7 := part_get (l := more (own16 bs 16) k) (i := 16 + k - 7) (by omega)
          have hg2 := part_get (l := more (own16 bs 16) k) (i := 16 + k - 2) (by omega)
          have hz := part_next (l := more (own16 bs 16) k) (by omega)
          rw [show 16 + k - 16 = k by omega] at hg16
          rw [← hb1.cell] at hg16 hg15 hg7 hg2 hz
          rw [hlm] at hz
          have hN : nextW (more (own16 bs 16) k) = (more (own16 bs 16) k).getD k 0 + far ((more (own16 bs 16) k).getD (16 + k - 15) 0) + (more (own16 bs 16) k).getD (16 + k - 7) 0 + near ((more (own16 bs 16) k).getD (16 + k - 2) 0) := by
            unfold nextW
            rw [hlm, show 16 + k - 16 = k by omega]
          have hfz := hb1.frozen (16 + k)
          have hps := part_set (l := more (own16 bs 16) k) (by omega) (nextW (more (own16 bs 16) k))
          rw [hN, hlm] at hps
          have HD := Lib.hid hd
          have HP := Lib.hid hps
          have HN := Lib.hid hN
          have HB1 := Lib.hid hb1
          have HB0 := Lib.hid hb0
          have HX := Lib.hid hnx
          clear hd hps hN hb1 hb0 hnx hpl
          generalize (more (own16 bs 16) k).getD k 0 = x16 at hg16 HN HP
          generalize (more (own16 bs 16) k).getD (16 + k - 15) 0 = x15 at hg15 HN HP
          generalize (more (own16 bs 16) k).getD (16 + k - 7) 0 = x7 at hg7 HN HP
          generalize (more (own16 bs 16) k).getD (16 + k - 2) 0 = x2 at hg2 HN HP
          have n15 := nw_bound x15
          have n2 := nw_bound x2
          go_region
          all_goals go_wp2_with (first
            | (go_at_call 174; with_reducible refine (rot_7 _ x15).mono ?_; rintro e w' ⟨rfl, rfl⟩)
            | (go_at_call 174; with_reducible refine (rot_18 _ x15).mono ?_; rintro e w' ⟨rfl, rfl⟩)
            | (go_at_call 174; with_reducible refine (rot_17 _ x2).mono ?_; rintro e w' ⟨rfl, rfl⟩)
            | (go_at_call 174; with_reducible refine (rot_19 _ x2).mono ?_; rintro e w' ⟨rfl, rfl⟩))
          all_goals go_region
          all_goals go_wp2
          all_goals go_roundw
          case rel =>
            refine ⟨k + 1, by omega, by go_num, ?_, ?_, ?_⟩
            · exact more_step HB1.out (own16_length bs 16) hk48 x16 x15 x7 x2 HN.out
            · exact (HB0.out.drew.drew).far (p := ⟨w.heap.size + 1, _, none⟩) (by simp) _
            · exact HX.out.drew.drew.setCell (p := ⟨w.heap.size + 1, _, none⟩) (by simp) _
          case measure => simp [intOf]; omega
        · obtain rfl : k = 48 := by omega
          have hb := hb0.setCells (part (more (own16 bs 16) 48)) 0 (by simp [hpl])
          have ho : over (List.replicate 64 (Value.int .u32 0)) 0 (part (more (own16 bs 16) 48)) = Wd (sched bs) := by
            unfold over
            rw [List.take_zero, List.drop_eq_nil_of_le (by simp [hpl]), part_whole _ (by rw [hlm])]
            simp [sched]
          rw [ho] at hb
          refine bodyPost_ret (v := .agg (Wd (sched bs)).toArray) ?_ rfl ⟨rfl, ?_⟩
          · exact ret_cell rfl rfl (run_loadVar_mid _ _ 0 237 _ _ hb.range Tryz.underlying237 rfl (info74.trans (by simp [Wd_length, sched_length])))
          · exact (Only.setCells _ _ _ (S := []) (a := w) (Only.of_below hnx) (.inr (Nat.le_refl _))).below (Nat.le_refl _) (by simp)

end Go.Proofs.YtkmkblhmjeeaeaaGreatDoor
end

/-
  A block's turn of the eight words, as plain data. No condition.
-/

section
set_option maxRecDepth 100000
set_option linter.unusedSimpArgs false
set_option linter.unusedVariables false
namespace Go.Proofs.YtkmkblhmjeeaeaaGreatDoor
open Go.RowKit

/-- The eight words. -/
structure S8 where
  a : B32
  b : B32
  c : B32
  d : B32
  e : B32
  f : B32
  g : B32
  h : B32

def S8.list (s : S8) : List B32 := [s.a, s.b, s.c, s.d, s.e, s.f, s.g, s.h]
def one8 (s : S8) (k w : B32) : B32 := s.h + (rr s.e 6 ^^^ rr s.e 11 ^^^ rr s.e 25) + ((s.e &&& s.f) ^^^ (~~~s.e &&& s.g)) + k + w
def two8 (s : S8) : B32 := (rr s.a 2 ^^^ rr s.a 13 ^^^ rr s.a 22) + ((s.a &&& s.b) ^^^ (s.a &&& s.c) ^^^ (s.b &&& s.c))
def step8 (s : S8) (k w : B32) : S8 := ⟨one8 s k w + two8 s, s.a, s.b, s.c, s.d + one8 s k w, s.e, s.f, s.g⟩
/-- The words behind i steps. -/
def steps8 (ks ws : List B32) (s : S8) : Nat → S8
  | 0 => s
  | i + 1 => step8 (steps8 ks ws s i) (ks.getD i 0) (ws.getD i 0)
def add8 (s t : S8) : S8 := ⟨s.a + t.a, s.b + t.b, s.c + t.c, s.d + t.d, s.e + t.e, s.f + t.f, s.g + t.g, s.h + t.h⟩
def turn8 (ks : List B32) (s : S8) (bs : List B8) : S8 := add8 s (steps8 ks (sched bs) s 64)
/-- The first k words have been added. -/
def mix8 (s t : S8) (k : Nat) : List B32 := (add8 s t).list.take k ++ s.list.drop k
theorem mix8_get (s t : S8) {k : Nat} (hk : k < 8) : (mix8 s t k)[k]? = some (s.list.getD k 0) := by
  match k, hk with
  | 0, _ | 1, _ | 2, _ | 3, _ | 4, _ | 5, _ | 6, _ | 7, _ => rfl
theorem mix8_set (s t : S8) {k : Nat} (hk : k < 8) : (mix8 s t k).set k (s.list.getD k 0 + t.list.getD k 0) = mix8 s t (k + 1) := by
  match k, hk with
  | 0, _ | 1, _ | 2, _ | 3, _ | 4, _ | 5, _ | 6, _ | 7, _ => rfl
theorem mix8_length (s t : S8) {k : Nat} (hk : k ≤ 8) : (mix8 s t k).length = 8 := by
  match k, hk with
  | 0, _ | 1, _ | 2, _ | 3, _ | 4, _ | 5, _ | 6, _ | 7, _ | 8, _ => rfl

/-- The steps' constants lie in their variable. -/
def Roots (ks : List B32) (w : World) : Prop := ∀ i, i < 64 → w.cell? ⟨1, i, none⟩ = some (.int .u32 (nw (ks.getD i 0)))
theorem Roots.pos {ks : List B32} {w : World} (h : Roots ks w) : 1 < w.heap.size := World.block_lt_of_cell? w _ (h 0 (by omega))
theorem Roots.below {ks : List B32} {w w' : World} {B : Nat} (h : Roots ks w) (hb : Below B w w') (hB : 1 < B) : Roots ks w' := fun i hi => (hb.cell hB).trans (h i hi)
theorem Roots.only {ks : List B32} {w w' : World} {S : List Nat} (h : Roots ks w) (hb : Only S w w') (hS : 1 ∉ S) : Roots ks w' := by
  intro i hi
  have h0 := h i hi
  rw [← h0]
  unfold World.cell?
  rw [show (⟨1, i, none⟩ : Addr).block = 1 from rfl, hb.block 1 h.pos hS]

end Go.Proofs.YtkmkblhmjeeaeaaGreatDoor
end

/-
  turn: a block brought into the words. Conditions: the stream's block is known; 64 bytes, each cell there; the constants lie in their variable.
-/

section
set_option maxRecDepth 100000
set_option linter.unusedSimpArgs false
set_option linter.unusedVariables false
namespace Go.Proofs.YtkmkblhmjeeaeaaGreatDoor
open Go.RowKit

attribute [local go_sem] add_u32 xor_u32 and_u32 or_u32 not_u32 shl_u32 shr_u32 div_u32 div_8 div_3 div_16 div_10 div_24

theorem ar1 (w : World) (x : B32) : Calls Tryz.prog 162 #[.int .u32 (nw x), .int .i64 6, .int .i64 11, .int .i64 25] w fun e w' => e = .returned (.int .u32 (nw (rr x 6 ^^^ rr x 11 ^^^ rr x 25))) ∧ w = w' := around_any w x 6 11 25 (by omega) (by omega) (by omega)
theorem ar1q (w : World) (x : B32) : Calls Tryz.prog 162 #[.int .u32 (nw x), .int .i64 6, .int .i64 11, .int .i64 25] w fun e w' => e = .returned (.int .u32 (nw (rr x 6 ^^^ rr x 11 ^^^ rr x 25))) ∧ w' = w := (ar1 w x).mono fun _ _ h => ⟨h.1, h.2.symm⟩
theorem chosenq (w : World) (x y z : B32) : Calls Tryz.prog 163 #[.int .u32 (nw x), .int .u32 (nw y), .int .u32 (nw z)] w fun e w' => e = .returned (.int .u32 (nw ((x &&& y) ^^^ (~~~x &&& z)))) ∧ w' = w := (chosen_any w x y z).mono fun _ _ h => ⟨h.1, h.2.symm⟩
theorem ar2 (w : World) (x : B32) : Calls Tryz.prog 162 #[.int .u32 (nw x), .int .i64 2, .int .i64 13, .int .i64 22] w fun e w' => e = .returned (.int .u32 (nw (rr x 2 ^^^ rr x 13 ^^^ rr x 22))) ∧ w = w' := around_any w x 2 13 22 (by omega) (by omega) (by omega)

theorem index8 (t : S8) (j : Nat) (hj : j < 8) (W : World) : (Instr.index 195 (.agg #[.int .u32 (nw t.a), .int .u32 (nw t.b), .int .u32 (nw t.c), .int .u32 (nw t.d), .int .u32 (nw t.e), .int .u32 (nw t.f), .int .u32 (nw t.g), .int .u32 (nw t.h)]) (.int .i64 j)).run Tryz.prog W = .ok (.int .u32 (nw (t.list.getD j 0))) W := by
  match j, hj with
  | 0, _ => exact (by kernel_rfl : (Instr.index 195 (.agg #[.int .u32 (nw t.a), .int .u32 (nw t.b), .int .u32 (nw t.c), .int .u32 (nw t.d), .int .u32 (nw t.e), .int .u32 (nw t.f), .int .u32 (nw t.g), .int .u32 (nw t.h)]) (.int .i64 0)).run Tryz.prog W = .ok (.int .u32 (nw t.a)) W)
  | 1, _ => exact (by kernel_rfl : (Instr.index 195 (.agg #[.int .u32 (nw t.a), .int .u32 (nw t.b), .int .u32 (nw t.c), .int .u32 (nw t.d), .int .u32 (nw t.e), .int .u32 (nw t.f), .int .u32 (nw t.g), .int .u32 (nw t.h)]) (.int .i64 1)).run Tryz.prog W = .ok (.int .u32 (nw t.b)) W)
  | 2, _ => exact (by kernel_rfl : (Instr.index 195 (.agg #[.int .u32 (nw t.a), .int .u32 (nw t.b), .int .u32 (nw t.c), .int .u32 (nw t.d), .int .u32 (nw t.e), .int .u32 (nw t.f), .int .u32 (nw t.g), .int .u32 (nw t.h)]) (.int .i64 2)).run Tryz.prog W = .ok (.int .u32 (nw t.c)) W)
  | 3, _ => exact (by kernel_rfl : (Instr.index 195 (.agg #[.int .u32 (nw t.a), .int .u32 (nw t.b), .int .u32 (nw t.c), .int .u32 (nw t.d), .int .u32 (nw t.e), .int .u32 (nw t.f), .int .u32 (nw t.g), .int .u32 (nw t.h)]) (.int .i64 3)).run Tryz.prog W = .ok (.int .u32 (nw t.d)) W)
  | 4, _ => exact (by kernel_rfl : (Instr.index 195 (.agg #[.int .u32 (nw t.a), .int .u32 (nw t.b), .int .u32 (nw t.c), .int .u32 (nw t.d), .int .u32 (nw t.e), .int .u32 (nw t.f), .int .u32 (nw t.g), .int .u32 (nw t.h)]) (.int .i64 4)).run Tryz.prog W = .ok (.int .u32 (nw t.e)) W)
  | 5, _ => exact (by kernel_rfl : (Instr.index 195 (.agg #[.int .u32 (nw t.a), .int .u32 (nw t.b), .int .u32 (nw t.c), .int .u32 (nw t.d), .int .u32 (nw t.e), .int .u32 (nw t.f), .int .u32 (nw t.g), .int .u32 (nw t.h)]) (.int .i64 5)).run Tryz.prog W = .ok (.int .u32 (nw t.f)) W)
  | 6, _ => exact (by kernel_rfl : (Instr.index 195 (.agg #[.int .u32 (nw t.a), .int .u32 (nw t.b), .int .u32 (nw t.c), .int .u32 (nw t.d), .int .u32 (nw t.e), .int .u32 (nw t.f), .int .u32 (nw t.g), .int .u32 (nw t.h)]) (.int .i64 6)).run Tryz.prog W = .ok (.int .u32 (nw t.g)) W)
  | 7, _ => exact (by kernel_rfl : (Instr.index 195 (.agg #[.int .u32 (nw t.a), .int .u32 (nw t.b), .int .u32 (nw t.c), .int .u32 (nw t.d), .int .u32 (nw t.e), .int .u32 (nw t.f), .int .u32 (nw t.g), .int .u32 (nw t.h)]) (.int .i64 7)).run Tryz.prog W = .ok (.int .u32 (nw t.h)) W)
theorem mix_step {w : World} {p j : Nat} {s t : S8} {tl : List Value} (h : Blk w p 198 (Wd (mix8 s t j) ++ tl)) (hj : j < 8) : Blk (w.setCell ⟨p, j, none⟩ (.int .u32 (nw (s.list.getD j 0 + t.list.getD j 0)))) p 198 (Wd (mix8 s t (j + 1)) ++ tl) := by
  have hl := mix8_length s t (k := j) (by omega)
  have := h.set_ j (.int .u32 (nw (s.list.getD j 0 + t.list.getD j 0)))
  rw [List.set_append_left _ _ (by rw [Wd_length]; omega)] at this
  have e : (Wd (mix8 s t j)).set j (.int .u32 (nw (s.list.getD j 0 + t.list.getD j 0))) = Wd (mix8 s t (j + 1)) := by
    rw [← mix8_set s t hj]
    unfold Wd
    rw [List.map_set]
  rw [e] at this
  exact this
theorem mix_cell {w : World} {p j : Nat} {s t : S8} {tl : List Value} (h : Blk w p 198 (Wd (mix8 s t j) ++ tl)) (hj : j < 8) : w.cell? ⟨p, j, none⟩ = some (.int .u32 (nw (s.list.getD j 0))) := by
  have hl := mix8_length s t (k := j) (by omega)
  rw [h.cell, List.getElem?_append_left (by rw [Wd_length]; omega), Wd_get, mix8_get s t hj]
  rfl

set_option maxHeartbeats 1000000 in
set_option maxRecDepth 100000 in
theorem turn_any (ks : List B32) (w : World) (p g o c : Nat) (s : S8) (tl : List Value) (bs : List B8) (hp : 1 < p) (hK : Roots ks w) (hb : Blk w p 198 (Wd s.list ++ tl)) (hcells : ∀ j, j < 64 → w.cell? ⟨g, o + j, none⟩ = some (.int .u8 (nb (bs.getD j 0)))) :
    Calls Tryz.prog 147 #[.pointer (some ⟨p, 0, none⟩), .slice (some ⟨g, o, none⟩) 64 c] w fun e w' => e = .returned (.tuple #[]) ∧ Blk w' p 198 (Wd (turn8 ks s bs).list ++ tl) ∧ Only [p] w w' := by
  have hpl := hb.lt
  go_enter Tryz.func147, Tryz.ntmps147
  go_wp2_with fail
  refine (spread_any w g o c bs hcells).mono ?_
  rintro e w1 ⟨rfl, h1⟩
  have hK1 := hK.below h1 hK.pos
  have hb1 := hb.below h1 hpl
  have hs1 := h1.size
  have HC := Lib.hid hcells
  have H1 := Lib.hid h1
  have HB := Lib.hid hb
  have HK := Lib.hid hK
  have HK1 := Lib.hid hK1
  clear hcells h1 hb hK hK1
  have HB1 := Lib.hid hb1
  clear hb1
  go_wp2_with (refine wpList_store_blk rfl 237 (.tmp 4) (.tmp 19) rfl w1.heap.size 0 (Wd (sched bs)) rfl rfl (Blk.new w1 237 (List.replicate 64 (.int .u32 0))) (by simp [Wd_length, sched_length]) (info74.trans (by simp [Wd_length, sched_length])) (Wd_oneCell _) ?_; intro W2 hA hO)
  rw [over_whole (by simp [Wd_length, sched_length])] at hA
  have hO2 : Below w.heap.size w W2 := H1.out.trans (((Below.refl _ _).alloc (Nat.le_refl _) _).trans ((hO.below (B := w1.heap.size) (by simp) (by simp)))|>.mono hs1)
  have hK2 := HK.out.below hO2 (by omega)
  have hb2 := HB.out.below hO2 hpl
  have hpA : p < w1.heap.size := by omega
  have c0 := hb2.cell 0
  have c1 := hb2.cell 1
  have c2 := hb2.cell 2
  have c3 := hb2.cell 3
  have c4 := hb2.cell 4
  have c5 := hb2.cell 5
  have c6 := hb2.cell 6
  have c7 := hb2.cell 7
  simp only [Wd, S8.list, List.map_cons, List.map_nil, List.cons_append, List.getElem?_cons_zero, List.getElem?_cons_succ] at c0 c1 c2 c3 c4 c5 c6 c7
  have HB2 := Lib.hid hb2
  have HA := Lib.hid hA
  have HO2 := Lib.hid hO2
  have HK2 := Lib.hid hK2
  clear hb2 hA hO2 hK2 HB1 H1 HK1 hO HC
  go_quiet (fail)
  clear c0 c1 c2 c3 c4 c5 c6 c7
  go_wp2
  go_loopw [52, 5, 6, 7, 8, 9, 10, 11, 12] (fun i va vb vc vd ve vf vg vh wr => ∃ k : Nat, k ≤ 64 ∧ i = .int .i64 k ∧ va = .int .u32 (nw (steps8 ks (sched bs) s k).a) ∧ vb = .int .u32 (nw (steps8 ks (sched bs) s k).b) ∧ vc = .int .u32 (nw (steps8 ks (sched bs) s k).c) ∧ vd = .int .u32 (nw (steps8 ks (sched bs) s k).d) ∧
      ve = .int .u32 (nw (steps8 ks (sched bs) s k).e) ∧ vf = .int .u32 (nw (steps8 ks (sched bs) s k).f) ∧ vg = .int .u32 (nw (steps8 ks (sched bs) s k).g) ∧ vh = .int .u32 (nw (steps8 ks (sched bs) s k).h) ∧ ∃ n, wr = W2.drewN n) (fun i _ _ _ _ _ _ _ _ _ => 64 - (intOf i).toNat)
  case atStart => exact ⟨0, by omega, rfl, rfl, rfl, rfl, rfl, rfl, rfl, rfl, rfl, nq, rfl⟩
  case round =>
    obtain ⟨k, hk, rfl, rfl, rfl, rfl, rfl, rfl, rfl, rfl, rfl, n, rfl⟩ := hrel
    have hS : steps8 ks (sched bs) s (k + 1) = step8 (steps8 ks (sched bs) s k) (ks.getD k 0) ((sched bs).getD k 0) := rfl
    have HS := Lib.hid hS
    clear hS
    go_wp2_with fail
    · have hk64 : (k : Int) < 64 := by omega
      have hk0 : (0 : Int) ≤ (k : Int) := by omega
      have f0 : W2.cell? ⟨1, k, none⟩ = some (.int .u32 (nw (ks.getD k 0))) := HK2.out k (by omega)
      have f1 : W2.cell? ⟨w1.heap.size, k, none⟩ = some (.int .u32 (nw ((sched bs).getD k 0))) := by
        refine (HA.out.cell k).trans ?_
        rw [Wd_get, List.getD_eq_getElem?_getD, List.getElem?_eq_getElem (by rw [sched_length]; omega)]
        rfl
      generalize ks.getD k 0 = kc at f0 HS
      generalize (sched bs).getD k 0 = wc at f1 HS
      generalize steps8 ks (sched bs) s k = t at HS
      go_quiet (first
        | (go_at_call 162; exact (ar1q _ _).mono fun _ _ h => ⟨h.1, _, h.2⟩)
        | (go_at_call 163; exact (chosenq _ _ _ _).mono fun _ _ h => ⟨h.1, _, h.2⟩))
      clear f0 f1
      go_wp2_with (first
        | (go_at_call 162; with_reducible refine (ar2 _ _).mono ?_; rintro e w' ⟨rfl, rfl⟩)
        | (go_at_call 164; with_reducible refine (most_any _ _ _ _).mono ?_; rintro e w' ⟨rfl, rfl⟩))
      go_roundw
      case rel =>
        refine ⟨k + 1, by omega, by go_num, ?_, ?_, ?_, ?_, ?_, ?_, ?_, ?_, ?_⟩
        · rw [HS.out]; rfl
        · rw [HS.out]; rfl
        · rw [HS.out]; rfl
        · rw [HS.out]; rfl
        · rw [HS.out]; rfl
        · rw [HS.out]; rfl
        · rw [HS.out]; rfl
        · rw [HS.out]; rfl
        · exact ⟨_, rfl⟩
      case measure => simp [intOf]; omega
    · have hd64 : decide ((k : Int) < 64) = false := decide_eq_false (by omega)
      rw [hd64]
      clear hd64
      obtain ⟨t, ht⟩ : ∃ t, t = steps8 ks (sched bs) s 64 := ⟨_, rfl⟩
      rw [show k = 64 by omega, ← ht]
      have HT := Lib.hid ht
      clear ht HS
      go_loopw [101] (fun i wr => ∃ j : Nat, j ≤ 8 ∧ i = .int .i64 j ∧ Blk wr p 198 (Wd (mix8 s t j) ++ tl) ∧ Only [p] W2 wr) (fun i _ => 8 - (intOf i).toNat)
      case atStart => exact ⟨0, by omega, rfl, HB2.out.drewN n, (Only.refl _ _).drewN n⟩
      case round =>
        obtain ⟨j, hj, rfl, hbj, hoj⟩ := hrel
        by_cases hj8 : j < 8
        · have hix := index8 t j hj8 wr
          have hmc := mix_cell hbj hj8
          have hfz := hbj.frozen j
          have hms := mix_step hbj hj8
          generalize s.list.getD j 0 = x at hmc hms
          generalize t.list.getD j 0 = y at hix hms
          have HMS := Lib.hid hms
          have HOJ := Lib.hid hoj
          clear hbj hoj hms
          go_wp2_with fail
          go_region
          all_goals go_wp2
          all_goals go_roundw
          case rel => exact ⟨j + 1, by omega, by go_num, HMS.out.drew, (HOJ.out.drew.setCell (p := ⟨p, j, none⟩) (.inl (by simp)) _)⟩
          case measure => simp [intOf]; omega
        · obtain rfl : j = 8 := by omega
          have HBJ := Lib.hid hbj
          have HOJ := Lib.hid hoj
          clear hbj hoj
          go_wp2
          go_end0
          refine ⟨rfl, ?_, ?_⟩
          · have e : mix8 s t 8 = (turn8 ks s bs).list := by
              rw [HT.out]; rfl
            rw [← e]
            exact HBJ.out
          · exact (Only.of_below HO2.out).trans HOJ.out

end Go.Proofs.YtkmkblhmjeeaeaaGreatDoor
end

/-
  begin, bytes, Fork, Len, frame: the small methods. Conditions: the stream's block is known.
-/

section
set_option maxRecDepth 100000
set_option linter.unusedSimpArgs false
set_option linter.unusedVariables false
namespace Go.Proofs.YtkmkblhmjeeaeaaGreatDoor
open Go.RowKit

attribute [local go_sem] add_u32 xor_u32 and_u32 or_u32 not_u32 shl_u32 shr_u32 div_u32 div_8 div_3 div_16 div_10 div_24 mod_u8 low_u8

/-- The words at the beginning. -/
def start8 : S8 := ⟨0x6a09e667#32, 0xbb67ae85#32, 0x3c6ef372#32, 0xa54ff53a#32, 0x510e527f#32, 0x9b05688c#32, 0x1f83d9ab#32, 0x5be0cd19#32⟩
theorem start8_cells : [.int .u32 1779033703, .int .u32 3144134277, .int .u32 1013904242, .int .u32 2773480762, .int .u32 1359893119, .int .u32 2600822924, .int .u32 528734635, .int .u32 1541459225] = Wd start8.list := by
  simp only [Wd, S8.list, start8, List.map_cons, List.map_nil]
  unfold nw
  rfl

theorem begin_any (w : World) (p : Nat) (old : List B32) (hl : old.length = 8) (tl : List Value) (hb : Blk w p 198 (Wd old ++ tl)) :
    Calls Tryz.prog 146 #[.pointer (some ⟨p, 0, none⟩)] w fun e w' => e = .returned (.tuple #[]) ∧ Blk w' p 198 (Wd start8.list ++ tl) ∧ Only [p] w w' := by
  go_enter Tryz.func146, Tryz.ntmps146
  go_wp2_with (refine wpList_store_blk rfl 196 (.tmp 4) (.tmp 3) rfl p 0 [.int .u32 1779033703, .int .u32 3144134277, .int .u32 1013904242, .int .u32 2773480762, .int .u32 1359893119, .int .u32 2600822924, .int .u32 528734635, .int .u32 1541459225] rfl rfl hb (by simp [Wd_length, hl]) info41 (by rw [start8_cells]; exact Wd_oneCell _) ?_; intro w' h1 h2)
  go_end0
  refine ⟨rfl, ?_, h2⟩
  rw [start8_cells] at h1
  unfold over at h1
  rw [List.take_zero, List.nil_append, Wd_length, show 0 + start8.list.length = (Wd old).length by rw [Wd_length, hl]; rfl, List.drop_left] at h1
  exact h1

/-- The zero stream's cells. -/
def zeroCells : List Value := List.replicate 8 (.int .u32 0) ++ List.replicate 64 (.int .u8 0) ++ [.int .i64 0]

theorem zero44 (w : World) : (zeroValue 198).run Tryz.prog w = .ok (.agg zeroCells.toArray) w :=
  (zero_of_info (P := Tryz.prog) (t := 198) (v := .agg zeroCells.toArray) (n := 73) (by kernel_rfl)).1 w

set_option maxRecDepth 100000 in
theorem fork_nil (w : World) : Calls Tryz.prog 148 #[.pointer none] w fun e w' => e = .returned (.pointer (some ⟨w.heap.size, 0, none⟩)) ∧ Blk w' w.heap.size 198 zeroCells ∧ Below w.heap.size w w' := by
  have hz := zero44
  go_enter Tryz.func148, Tryz.ntmps148
  go_wp2
  go_ret
  exact ⟨rfl, Blk.new w 198 zeroCells, (Below.refl _ _).alloc (Nat.le_refl _) _⟩

set_option maxRecDepth 100000 in
theorem fork_any (w : World) (p : Nat) (cs : List Value) (h1 : ∀ u ∈ cs, u.oneCell' = true) (hl : cs.length = 73) (hb : Blk w p 198 cs) : Calls Tryz.prog 148 #[.pointer (some ⟨p, 0, none⟩)] w fun e w' => ∃ q, e = .returned (.pointer (some ⟨q, 0, none⟩)) ∧ w.heap.size ≤ q ∧ Blk w' q 198 cs ∧ Below w.heap.size w w' := by
  go_enter Tryz.func148, Tryz.ntmps148
  have hz := zero44
  go_wp2_with (first
    | (refine wpList_load_mid rfl 198 (.tmp 9) rfl p 0 rfl _ _ hb.range Tryz.underlying198 rfl (info44.trans (by rw [hl])) ?_)
    | (refine wpList_store_blk rfl 198 (.tmp 3) (.tmp 10) rfl w.heap.size 0 cs rfl rfl (Blk.new w 198 zeroCells) (by rw [hl]; decide) (info44.trans (by rw [hl])) h1 ?_; intro W2 hA hO))
  go_ret
  refine ⟨_, rfl, Nat.le_refl _, ?_, ?_⟩
  · rw [over_whole (by rw [hl]; decide)] at hA
    exact hA
  · exact ((Below.refl _ _).alloc (Nat.le_refl _) _).trans (hO.below (by simp) (by simp))

/-- A word's bytes. -/
def b4 (x : B32) : List B8 := [(x >>> 24).setWidth 8, (x >>> 16).setWidth 8, (x >>> 8).setWidth 8, x.setWidth 8]
def outB (s : S8) : Nat → List B8
  | 0 => []
  | k + 1 => outB s k ++ b4 (s.list.getD k 0)
theorem outB_length (s : S8) : ∀ k, (outB s k).length = 4 * k
  | 0 => rfl
  | k + 1 => by simp [outB, outB_length s k, b4]; omega
/-- Bytes, and behind them the rest of an array of 32, still nought. -/
def partB (l : List B8) : List Value := Vb l ++ List.replicate (32 - l.length) (.int .u8 0)
theorem partB_length {l : List B8} (h : l.length ≤ 32) : (partB l).length = 32 := by simp [partB, Vb_length]; omega
theorem partB_set {l : List B8} (h : l.length < 32) (x : B8) : (partB l).set l.length (.int .u8 (nb x)) = partB (l ++ [x]) := by
  unfold partB
  rw [List.set_append_right _ _ (by rw [Vb_length]; omega), Vb_length, Nat.sub_self, Vb_append]
  obtain ⟨m, hm⟩ : ∃ m, 32 - l.length = m + 1 := ⟨32 - l.length - 1, by omega⟩
  rw [hm, List.replicate_succ, List.set_cons_zero, List.append_assoc]
  have : 32 - (l ++ [x]).length = m := by simp; omega
  rw [this]
  rfl
theorem partB_next {l : List B8} {j : Nat} (h : l.length + j < 32) : (partB l)[l.length + j]? = some (.int .u8 0) := by
  unfold partB
  rw [List.getElem?_append_right (by rw [Vb_length]; omega), Vb_length, Nat.add_sub_cancel_left, List.getElem?_replicate]
  rw [if_pos (by omega)]
theorem partB_oneCell (l : List B8) : ∀ u ∈ partB l, u.oneCell' = true := by
  intro u hu
  rcases List.mem_append.1 hu with h | h
  · exact Vb_oneCell l u h
  · rw [(List.mem_replicate.1 h).2]; rfl
theorem partB_whole (l : List B8) (h : l.length = 32) : partB l = Vb l := by simp [partB, h]
theorem word_cell {w : World} {p k : Nat} {s : S8} {tl : List Value} (h : Blk w p 198 (Wd s.list ++ tl)) (hk : k < 8) : w.cell? ⟨p, k, none⟩ = some (.int .u32 (nw (s.list.getD k 0))) := by
  have hl : s.list.length = 8 := rfl
  rw [h.cell, List.getElem?_append_left (by rw [Wd_length]; omega), Wd_get, List.getD_eq_getElem?_getD, List.getElem?_eq_getElem (by omega)]
  rfl
theorem out_step {s : S8} {k : Nat} (hk : k < 8) (x : B32) (hx : s.list.getD k 0 = x) :
    ((((partB (outB s k)).set (4 * k) (.int .u8 (nb ((x >>> 24).setWidth 8)))).set (4 * k + 1) (.int .u8 (nb ((x >>> 16).setWidth 8)))).set (4 * k + 2) (.int .u8 (nb ((x >>> 8).setWidth 8)))).set (4 * k + 3) (.int .u8 (nb (x.setWidth 8))) = partB (outB s (k + 1)) := by
  have hl := outB_length s k
  have e0 := partB_set (l := outB s k) (by omega) ((x >>> 24).setWidth 8)
  have e1 := partB_set (l := outB s k ++ [(x >>> 24).setWidth 8]) (by simp; omega) ((x >>> 16).setWidth 8)
  have e2 := partB_set (l := outB s k ++ [(x >>> 24).setWidth 8] ++ [(x >>> 16).setWidth 8]) (by simp; omega) ((x >>> 8).setWidth 8)
  have e3 := partB_set (l := outB s k ++ [(x >>> 24).setWidth 8] ++ [(x >>> 16).setWidth 8] ++ [(x >>> 8).setWidth 8]) (by simp; omega) (x.setWidth 8)
  simp only [List.length_append, List.length_cons, List.length_nil, hl, Nat.zero_add, Nat.add_assoc, Nat.reduceAdd] at e0 e1 e2 e3
  rw [e0, e1, e2, e3, outB, hx]
  simp [b4]

set_option maxHeartbeats 1000000 in
set_option maxRecDepth 100000 in
theorem bytes_any (w : World) (p : Nat) (s : S8) (tl : List Value) (hb : Blk w p 198 (Wd s.list ++ tl)) :
    Calls Tryz.prog 150 #[.pointer (some ⟨p, 0, none⟩)] w fun e w' => e = .returned (.agg (Vb (outB s 8)).toArray) ∧ Below w.heap.size w w' := by
  have hp := hb.lt
  have HB := Lib.hid hb
  clear hb
  go_enter Tryz.func150, Tryz.ntmps150
  go_wp2_with fail
  go_loopw [7] (fun i wr => ∃ k : Nat, k ≤ 8 ∧ i = .int .i64 k ∧ Blk wr (w.heap.size + 1) 168 (partB (outB s k)) ∧ Blk wr w.heap.size 168 (List.replicate 32 (.int .u8 0)) ∧ Below w.heap.size w wr) (fun i _ => 8 - (intOf i).toNat)
  case atStart => exact ⟨0, by omega, rfl, blk_two w 168 168 (List.replicate 32 (.int .u8 0)) (List.replicate 32 (.int .u8 0)), (Blk.new w 168 (List.replicate 32 (.int .u8 0))).alloc _, ((Below.refl _ _).alloc (Nat.le_refl _) _).alloc (by simp) _⟩
  case round =>
    obtain ⟨k, hk, rfl, hb1, hb0, hnx⟩ := hrel
    have hpl : (partB (outB s k)).length = 32 := partB_length (by rw [outB_length]; omega)
    by_cases hk8 : k < 8
    · have hw : wr.cell? ⟨p, k, none⟩ = some (.int .u32 (nw (s.list.getD k 0))) := (hnx.cell hp).trans (word_cell HB.out hk8)
      have hl := outB_length s k
      obtain ⟨x, hx⟩ : ∃ x, s.list.getD k 0 = x := ⟨_, rfl⟩
      have hst := out_step hk8 x hx
      rw [hx] at hw
      have HST := Lib.hid hst
      have HB1 := Lib.hid hb1
      have HB0 := Lib.hid hb0
      have HX := Lib.hid hnx
      have n0 := nw_bound x
      clear hb1 hb0 hnx hst hl hx
      go_wp2_with fail
      go_region
      go_wp2_with (first
        | (refine wpList_store_one rfl 5 (.tmp 35) (.tmp 26) rfl (w.heap.size + 1) (4 * k) .u8 _ rfl rfl (HB1.out.drew) (by rw [hpl]; omega) info5 ?_; intro w1 h1 o1)
        | (refine wpList_store_one rfl 5 (.tmp 36) (.tmp 29) rfl (w.heap.size + 1) (4 * k + 1) .u8 _ rfl rfl h1 (by rw [List.length_set, hpl]; omega) info5 ?_; intro w2 h2 o2)
        | (refine wpList_store_one rfl 5 (.tmp 37) (.tmp 32) rfl (w.heap.size + 1) (4 * k + 2) .u8 _ rfl rfl h2 (by rw [List.length_set, List.length_set, hpl]; omega) info5 ?_; intro w3 h3 o3)
        | (refine wpList_store_one rfl 5 (.tmp 38) (.tmp 34) rfl (w.heap.size + 1) (4 * k + 3) .u8 _ rfl rfl h3 (by rw [List.length_set, List.length_set, List.length_set, hpl]; omega) info5 ?_; intro w4 h4 o4))
      go_roundw
      case rel =>
        have o := (o1.trans (S := [w.heap.size + 1]) o2).trans (o3.trans o4)
        refine ⟨k + 1, by omega, by go_num, ?_, ?_, ?_⟩
        · rw [← HST.out]; exact h4
        · exact HB0.out.drew.only o (by simp)
        · exact HX.out.drew.trans (o.below (B := w.heap.size) (by have := HX.out.size; exact this) (by simp))
      case measure => simp [intOf]; omega
    · obtain rfl : k = 8 := by omega
      go_wp2_with (first
        | (refine wpList_load_mid rfl 168 (.tmp 3) rfl (w.heap.size + 1) 0 rfl _ _ hb1.range Tryz.underlying168 rfl (info31.trans (by rw [hpl])) ?_)
        | (refine wpList_store_blk rfl 168 (.tmp 2) (.tmp 40) rfl w.heap.size 0 _ rfl rfl hb0 (by simp [hpl]) (info31.trans (by rw [hpl])) (partB_oneCell _) ?_; intro W2 hA hO))
      rw [over_whole (by simp [hpl]), partB_whole _ (outB_length s 8)] at hA
      refine bodyPost_ret (v := .agg (Vb (outB s 8)).toArray) ?_ rfl ⟨rfl, ?_⟩
      · exact ret_cell rfl rfl (run_loadVar_mid _ _ 0 168 _ _ hA.range Tryz.underlying168 rfl (info31.trans (by simp [Vb_length, outB_length])))
      · exact hnx.trans (hO.below (B := w.heap.size) hnx.size (by simp))

theorem frame_any (w : World) (x : Int) (hx : 0 ≤ x ∧ x < 4294967296) : Calls Tryz.prog 122 #[.int .i64 x] w fun e w' => e = .returned (.agg #[.int .u8 (x / 16777216), .int .u8 (x / 65536 % 256), .int .u8 (x / 256 % 256), .int .u8 (x % 256)]) ∧ Below w.heap.size w w' := by
  go_enter Tryz.func122, Tryz.ntmps122
  go_wp2
  refine bodyPost_ret (ret_cell rfl rfl (v := .agg #[.int .u8 (x / 16777216), .int .u8 (x / 65536 % 256), .int .u8 (x / 256 % 256), .int .u8 (x % 256)]) ?_) rfl ⟨rfl, (Below.refl _ _).alloc (Nat.le_refl _) _⟩
  exact run_loadVar_mid _ _ 0 199 [.int .u8 (x / 16777216), .int .u8 (x / 65536 % 256), .int .u8 (x / 256 % 256), .int .u8 (x % 256)] _ (Blk.new w 199 [.int .u8 (x / 16777216), .int .u8 (x / 65536 % 256), .int .u8 (x / 256 % 256), .int .u8 (x % 256)]).range Tryz.underlying199 rfl (by kernel_rfl)

end Go.Proofs.YtkmkblhmjeeaeaaGreatDoor
end

/-
  ending: what comes behind so many bytes. Condition: at most 2^50 bytes.
-/

section
set_option maxRecDepth 100000
set_option linter.unusedSimpArgs false
set_option linter.unusedVariables false
namespace Go.Proofs.YtkmkblhmjeeaeaaGreatDoor
open Go.RowKit

/-- How many bytes 0 come behind n bytes and a byte 128. -/
def gap (n : Nat) : Nat := (119 - n % 64) % 64
/-- The first i bytes of the count of bits. -/
def count8 (n : Nat) : Nat → List B8
  | 0 => []
  | i + 1 => count8 n i ++ [BitVec.ofNat 8 (n * 8 / 2 ^ (56 - 8 * i))]
theorem count8_length (n : Nat) : ∀ i, (count8 n i).length = i
  | 0 => rfl
  | i + 1 => by simp [count8, count8_length n i]
def pad (n : Nat) : List B8 := 128#8 :: List.replicate (gap n) 0#8
def endB (n : Nat) : List B8 := pad n ++ count8 n 8
theorem pad_length (n : Nat) : (pad n).length = 1 + gap n := by simp [pad]; omega
theorem gap_lt (n : Nat) : gap n < 64 := Nat.mod_lt _ (by omega)
theorem endB_length (n : Nat) : (endB n).length = 9 + gap n := by simp [endB, pad_length, count8_length]; omega

theorem wpList_make_bytes {w : World} {ops : Array Oper} {rest : List Oper} {o : Oper} {a : Act} {Q : Exit → Act → World → Prop}
    (hg : o.guard = none) (x y : Operand) (hop : o.op = Op.makeSlice 40 x y) (l c : Nat) (kx ky : IntKind) (X Y : Int) (hx : a.eval x = .int kx X) (hy : a.eval y = .int ky Y) (hX : X = l) (hY : Y = c) (hlc : l ≤ c) (hc : c ≤ 281474976710656)
    (hK : wpList Tryz.prog ops Q rest (a.put o.dst (.slice (some ⟨w.heap.size, 0, none⟩) l c)) (w.alloc (.cells (List.replicate c (.int .u8 0)).toArray 5))) :
    wpList Tryz.prog ops Q (o :: rest) a w := by
  subst hX hY
  obtain ⟨i0, hi, hz0, hz1, hz2⟩ := info_parts (show (Tryz.prog.info? 5).map (fun i => (i.zero, i.size, i.bytes)) = some (some (.int .u8 0), 1, 1) by kernel_rfl)
  have hr := run_make (P := Tryz.prog) w 40 5 i0 (.int .u8 0) Tryz.underlying40 hi hz0 kx ky l c (by omega) (by omega) (by rw [hz2]; omega) (by omega)
  have hm : madeCells (Value.int .u8 0).cells ((c : Int).toNat * i0.size) = (List.replicate c (.int .u8 0)).toArray := by
    rw [hz1]
    simp only [madeCells, Value.cells, Int.toNat_natCast, Nat.mul_one]
    apply Array.ext
    · simp
    · intro j h1 h2
      simp [Nat.mod_one]
  rw [hm] at hr
  simp only [Int.toNat_natCast] at hr
  refine wpList_plain hg fun K hK' => ?_
  unfold Oper.wp execOp
  simp only [hop, hx, hy, Sem.run_bind, hr, Result.andThen_ok, Sem.run_pure]
  exact hK' _ _ hK

theorem new_one (w : World) (v : Value) (t : TypeId) : ∀ j u, [v][j]? = some u → (w.alloc (.cells #[v] t)).cell? ((⟨w.heap.size, 0, none⟩ : Addr).add j) = some u := by
  intro j u hj
  match j, hj with
  | 0, hj => simp at hj; subst hj; simp [Addr.add]
  | j + 1, hj => simp at hj
theorem one_one (k : IntKind) (n : Int) : ∀ u ∈ [Value.int k n], u.oneCell' = true := by
  intro u hu
  simp at hu
  subst hu
  rfl
theorem count_val (n i : Nat) : (n : Int) * 8 / 2 ^ (56 - 8 * i) % 256 = nb (BitVec.ofNat 8 (n * 8 / 2 ^ (56 - 8 * i))) := by
  unfold nb
  rw [BitVec.toNat_ofNat, Int.natCast_emod, Int.natCast_ediv, Int.natCast_mul, Int.natCast_pow]
  rfl

theorem owned_of_blk {w : World} {g : Nat} {t : TypeId} {cs : List Value} {B k : Nat} (h : Blk w g t cs) (hB : B ≤ g) (hk : k ≤ cs.length) (hm : cs.length ≤ maxLen) : w.ownsRow B t 1 (.slice (some ⟨g, 0, none⟩) k cs.length) k (cs.take k) :=
  ⟨by simp; omega, .inr ⟨g, cs.length, cs.toArray, rfl, hB, h, hk, hm, by simp, by simp⟩⟩

set_option maxHeartbeats 1000000 in
set_option maxRecDepth 100000 in
theorem ending_any (w : World) (n : Nat) (hn : n ≤ 1125899906842624) : Calls Tryz.prog 149 #[.int .i64 n] w fun e w' => ∃ g c, e = .returned (.slice (some ⟨g, 0, none⟩) (endB n).length c) ∧ w'.ownsRow w.heap.size 5 1 (.slice (some ⟨g, 0, none⟩) (endB n).length c) (endB n).length (Vb (endB n)) ∧ Below w.heap.size w w' := by
  obtain ⟨i0, hi, hz0, hz1, hz2⟩ := info_parts (show (Tryz.prog.info? 5).map (fun i => (i.zero, i.size, i.bytes)) = some (some (.int .u8 0), 1, 1) by kernel_rfl)
  have hgl := gap_lt n
  have hge : (119 - (n : Int) % 64) % 64 = (gap n : Int) := by unfold gap; omega
  go_enter Tryz.func149, Tryz.ntmps149
  go_wp2_with (first
    | (refine wpList_make_bytes rfl (.tmp 12) (.tmp 15) rfl (1 + gap n) (9 + gap n) .i64 .i64 _ _ rfl rfl (by omega) (by omega) (by omega) (by omega) ?_)
    | (refine wpList_store_one rfl 5 (.tmp 18) (.const (.int .u8 128)) rfl w.heap.size 0 .u8 128 rfl rfl (Blk.new w 5 (List.replicate (9 + gap n) (.int .u8 0))) (by rw [List.length_replicate]; omega) info5 ?_; intro w1 h1 o1))
  have hown : w1.ownsRow w.heap.size 5 1 (.slice (some ⟨w.heap.size, 0, none⟩) (1 + gap n) (9 + gap n)) (1 + gap n) (Vb (pad n)) := by
    have hlen : ((List.replicate (9 + gap n) (Value.int .u8 0)).set 0 (.int .u8 128)).length = 9 + gap n := by rw [List.length_set, List.length_replicate]
    have h := owned_of_blk (B := w.heap.size) (k := 1 + gap n) h1 (Nat.le_refl _) (by rw [hlen]; omega) (by rw [hlen]; unfold maxLen; omega)
    have e : ((List.replicate (9 + gap n) (Value.int .u8 0)).set 0 (.int .u8 128)).take (1 + gap n) = Vb (pad n) := by
      have e1 : 9 + gap n = (8 + gap n) + 1 := by omega
      rw [e1, List.replicate_succ, List.set_cons_zero, show 1 + gap n = gap n + 1 by omega, List.take_succ_cons, List.take_replicate, Nat.min_eq_left (by omega)]
      simp only [pad, Vb, List.map_cons, List.map_replicate]
      unfold nb
      rfl
    rw [e, hlen] at h
    exact h
  have hbel : Below w.heap.size w w1 := ((Below.refl _ _).alloc (Nat.le_refl _) _).trans (o1.below (B := w.heap.size) (by simp) (by simp))
  clear h1 o1
  go_loopw [6, 4] (fun sh v wr => ∃ i : Nat, i ≤ 8 ∧ sh = .int .i64 (56 - 8 * i) ∧ v = .slice (some ⟨w.heap.size, 0, none⟩) (1 + gap n + i) (9 + gap n) ∧ wr.ownsRow w.heap.size 5 1 v (1 + gap n + i) (Vb (pad n ++ count8 n i)) ∧ Below w.heap.size w wr) (fun sh _ _ => (intOf sh + 8).toNat)
  case atStart => exact ⟨0, by omega, rfl, rfl, by simpa [count8] using hown, hbel⟩
  case round =>
    clear hown hbel
    obtain ⟨i, hi8, rfl, rfl, hown, hbel⟩ := hrel
    by_cases hlt : i < 8
    · go_wp2_with (refine wpList_append_fits _ rfl (.tmp 26) (.tmp 31) 40 rfl w.heap.size 5 i0 1 Tryz.underlying40 hi hz1 w.heap.size (1 + gap n + i) (9 + gap n) (Vb (pad n ++ count8 n i)) rfl (hown.alloc _) ⟨wr.heap.size, 0, none⟩ 1 1 [.int .u8 ((n : Int) * 8 / 2 ^ (56 - 8 * i) % 256)] rfl rfl (new_one wr _ 5) (one_one _ _) (by omega) ?_; intro w2 hown2 hgrow2)
      go_roundw
      case rel =>
        refine ⟨i + 1, by omega, by go_num, rfl, ?_, ?_⟩
        · rw [count_val] at hown2
          simpa [count8, Vb, Nat.add_assoc] using hown2
        · exact (hbel.alloc hbel.size _).grown hgrow2 (by have := hbel.size; simp; omega) (by simp)
      case measure => simp [intOf]; omega
    · obtain rfl : i = 8 := by omega
      go_wp2_with fail
      go_ret
      have e : 9 + gap n = 1 + gap n + 8 := by omega
      refine ⟨w.heap.size, 9 + gap n, ?_, ?_, hbel⟩
      · show Ending.returned (.slice (some ⟨w.heap.size, 0, none⟩) (1 + gap n + 8) (9 + gap n)) = _
        rw [endB_length, e]
      · rw [endB_length]
        rw [e] at hown ⊢
        exact hown

end Go.Proofs.YtkmkblhmjeeaeaaGreatDoor
end
