/-
  The words of a block's steps, as plain lists. No condition.
-/
import Derived.Test.YtammomjnigalbaaDBits
set_option maxRecDepth 100000
set_option linter.unusedSimpArgs false
set_option linter.unusedVariables false
namespace Go.Proofs.Ytammomjnigalbaa
open Go.RowKit

/-- Words and bytes as cells. -/
def Wd (xs : List B32) : List Value := xs.map fun x => .int .u32 (nw x)
def Vb (xs : List B8) : List Value := xs.map fun x => .int .u8 (nb x)
theorem Wd_length (xs : List B32) : (Wd xs).length = xs.length := by simp [Wd]
theorem Vb_length (xs : List B8) : (Vb xs).length = xs.length := by simp [Vb]
theorem Wd_get (xs : List B32) (i : Nat) : (Wd xs)[i]? = xs[i]?.map fun x => .int .u32 (nw x) := by simp [Wd]
theorem Vb_get (xs : List B8) (i : Nat) : (Vb xs)[i]? = xs[i]?.map fun x => .int .u8 (nb x) := by simp [Vb]
theorem Wd_append (xs ys : List B32) : Wd (xs ++ ys) = Wd xs ++ Wd ys := by simp [Wd]
theorem Vb_append (xs ys : List B8) : Vb (xs ++ ys) = Vb xs ++ Vb ys := by simp [Vb]
theorem Vb_take (xs : List B8) (n : Nat) : (Vb xs).take n = Vb (xs.take n) := by simp [Vb]
theorem Vb_drop (xs : List B8) (n : Nat) : (Vb xs).drop n = Vb (xs.drop n) := by simp [Vb]
theorem Vb_oneCell (xs : List B8) : ∀ u ∈ Vb xs, u.oneCell' = true := by
  intro u hu
  simp only [Vb, List.mem_map] at hu
  obtain ⟨x, _, rfl⟩ := hu
  rfl
theorem Wd_oneCell (xs : List B32) : ∀ u ∈ Wd xs, u.oneCell' = true := by
  intro u hu
  simp only [Wd, List.mem_map] at hu
  obtain ⟨x, _, rfl⟩ := hu
  rfl

/-- Word i of a block. -/
def word4 (bs : List B8) (i : Nat) : B32 :=
  up (bs.getD (4 * i) 0) 24 ||| up (bs.getD (4 * i + 1) 0) 16 ||| up (bs.getD (4 * i + 2) 0) 8 ||| (bs.getD (4 * i + 3) 0).setWidth 32
theorem word4_eq (bs : List B8) (i : Nat) : word4 bs i =
  (up (bs.getD (4 * i) 0) 24 ||| up (bs.getD (4 * i + 1) 0) 16 ||| up (bs.getD (4 * i + 2) 0) 8 ||| (bs.getD (4 * i + 3) 0).setWidth 32) := rfl
def far (x : B32) : B32 := rr x 7 ^^^ rr x 18 ^^^ (x >>> 3)
def near (x : B32) : B32 := rr x 17 ^^^ rr x 19 ^^^ (x >>> 10)
/-- The next word, made of those ahead of it. -/
def nextW (l : List B32) : B32 := l.getD (l.length - 16) 0 + far (l.getD (l.length - 15) 0) + l.getD (l.length - 7) 0 + near (l.getD (l.length - 2) 0)
/-- The first k words of a block's own. -/
def own16 (bs : List B8) : Nat → List B32
  | 0 => []
  | k + 1 => own16 bs k ++ [word4 bs k]
/-- k words more. -/
def more (l : List B32) : Nat → List B32
  | 0 => l
  | k + 1 => more l k ++ [nextW (more l k)]
def sched (bs : List B8) : List B32 := more (own16 bs 16) 48
theorem own16_length (bs : List B8) : ∀ k, (own16 bs k).length = k
  | 0 => rfl
  | k + 1 => by simp [own16, own16_length bs k]
theorem more_length (l : List B32) : ∀ k, (more l k).length = l.length + k
  | 0 => rfl
  | k + 1 => by simp [more, more_length l k]; omega
theorem sched_length (bs : List B8) : (sched bs).length = 64 := by simp [sched, more_length, own16_length]

/-- Words, and behind them the rest of an array of 64, still nought. -/
def part (l : List B32) : List Value := Wd l ++ List.replicate (64 - l.length) (.int .u32 0)
theorem part_length {l : List B32} (h : l.length ≤ 64) : (part l).length = 64 := by simp [part, Wd_length]; omega
theorem part_set {l : List B32} (h : l.length < 64) (x : B32) : (part l).set l.length (.int .u32 (nw x)) = part (l ++ [x]) := by
  unfold part
  rw [List.set_append_right _ _ (by rw [Wd_length]; omega), Wd_length, Nat.sub_self, Wd_append]
  obtain ⟨m, hm⟩ : ∃ m, 64 - l.length = m + 1 := ⟨64 - l.length - 1, by omega⟩
  rw [hm, List.replicate_succ, List.set_cons_zero, List.append_assoc]
  have : 64 - (l ++ [x]).length = m := by simp; omega
  rw [this]
  rfl
theorem part_get {l : List B32} {i : Nat} (h : i < l.length) : (part l)[i]? = some (.int .u32 (nw (l.getD i 0))) := by
  unfold part
  rw [List.getElem?_append_left (by rw [Wd_length]; omega), Wd_get, List.getD_eq_getElem?_getD, List.getElem?_eq_getElem h]
  rfl
theorem part_next {l : List B32} (h : l.length < 64) : (part l)[l.length]? = some (.int .u32 0) := by
  unfold part
  rw [List.getElem?_append_right (by rw [Wd_length]; omega), Wd_length, Nat.sub_self, List.getElem?_replicate]
  rw [if_pos (by omega)]
theorem part_oneCell (l : List B32) : ∀ u ∈ part l, u.oneCell' = true := by
  intro u hu
  rcases List.mem_append.1 hu with h | h
  · exact Wd_oneCell l u h
  · rw [(List.mem_replicate.1 h).2]; rfl
theorem part_whole (l : List B32) (h : l.length = 64) : part l = Wd l := by simp [part, h]

end Go.Proofs.Ytammomjnigalbaa
