/-
  What a round of Build's first loop does, plainly. Plain theorems; conditions: those in each.
-/
import Derived.Test.YtodpojbgkeecnaaDoorCBuildPre
set_option linter.unusedSimpArgs false
set_option linter.unusedVariables false
namespace Go.Proofs.YtodpojbgkeecnaaDoor
open Go.RowKit

theorem pushTop_len : ∀ (ls : List (List T)) (t : T), (pushTop ls t).length = ls.length
  | [], _ => rfl
  | [_], _ => rfl
  | _ :: m :: r, t => by
    have ih := pushTop_len (m :: r) t
    simp only [pushTop, List.length_cons] at ih ⊢
    omega
theorem popTop_len : ∀ (ls : List (List T)), (popTop ls).length ≤ ls.length
  | [] => Nat.le_refl _
  | [_] => Nat.le_refl _
  | [_, _] => by simp [popTop]
  | _ :: m :: p :: r => by
    have ih := popTop_len (m :: p :: r)
    simp only [popTop, List.length_cons] at ih ⊢
    omega
theorem builtN_deep (ts : List Tok) : ∀ k, (builtN ts k).deep ≤ k + 1 ∧ (builtN ts k).ls.length ≤ k + 1
  | 0 => by simp [builtN, BS.start]
  | k + 1 => by
    have ih := builtN_deep ts k
    cases h : ts[k]? with
    | none =>
      have : builtN ts (k + 1) = builtN ts k := by
        unfold builtN
        rw [List.take_of_length_le (by have := List.getElem?_eq_none_iff.1 h; omega), List.take_of_length_le (by have := List.getElem?_eq_none_iff.1 h; omega)]
      rw [this]; omega
    | some t =>
      rw [builtN_succ h]
      have hp := pushTop_len (builtN ts k).ls t.leaf
      have ho := popTop_len (builtN ts k).ls
      unfold BS.step
      split
      · simp only; omega
      · split
        · simp only [List.length_append, List.length_cons, List.length_nil]; omega
        · split
          · simp only; omega
          · simp only
            split <;> omega

theorem sort_five (t : Tok) : t.sort = 0 ∨ t.sort = 1 ∨ t.sort = 2 ∨ t.sort = 3 ∨ t.sort = 4 := by
  unfold Tok.sort
  omega
theorem sort45 (t : Tok) : (IntKind.u64.wrap t.kind).tmod 5 = t.sort := by
  have h : IntKind.u64.wrap t.kind = t.kind % 18446744073709551616 := by
    simp [IntKind.wrap, IntKind.bits, IntKind.signed]
  rw [h, Int.tmod_eq_emod_of_nonneg (by omega)]
  rfl
theorem step_int {s : BS} {t : Tok} (h : t.sort = 0) : s.step t = { s with ls := pushTop s.ls (.mk 0 t.n [] []) } := by
  unfold BS.step Tok.leaf
  rw [if_pos (.inl h), if_pos h]
theorem step_text {s : BS} {t : Tok} (h : t.sort = 1) : s.step t = { s with ls := pushTop s.ls (.mk 1 0 (t.b.take 100) []) } := by
  unfold BS.step Tok.leaf
  rw [if_pos (.inr h), if_neg (by omega), if_pos h]
theorem step_open {s : BS} {t : Tok} (h : t.sort = 2) : s.step t = { s with ls := s.ls ++ [[]], deep := max s.deep (s.ls.length + 1) } := by
  unfold BS.step
  rw [if_neg (by omega), if_pos h]
theorem step_shut {s : BS} {t : Tok} (h : t.sort = 3) : s.step t = { s with ls := popTop s.ls } := by
  unfold BS.step
  rw [if_neg (by omega), if_neg (by omega), if_pos h]
theorem step_own {s : BS} {t : Tok} (h : t.sort = 4) : s.step t = { ls := pushTop s.ls (.mk t.n t.n (t.b.take 100) []), right := s.right && (decide (t.n = 0) && (t.b.take 100).isEmpty), deep := if t.n = 2 then max s.deep (s.ls.length + 1) else s.deep } := by
  unfold BS.step Tok.leaf
  rw [if_neg (by omega), if_neg (by omega), if_neg (by omega), if_neg (by omega), if_neg (by omega)]

theorem empty_take (b : List UInt8) : (((min 100 b.length : Nat) : Int) == 0) = (b.take 100).isEmpty := by
  cases b with
  | nil => rfl
  | cons x r =>

    rw [List.take_succ_cons]
    simp
/-- Where loop 1 ends. -/
theorem built_end {ts : List Tok} {k : Nat} (h1 : k ≤ ts.length) (h2 : k ≤ 60) (h : ¬(k < ts.length ∧ k < 60)) : builtN ts k = builtN ts 60 := by
  rcases Nat.lt_or_ge k 60 with h3 | h3
  · have : k = ts.length := by omega
    unfold builtN
    rw [List.take_of_length_le (by omega), List.take_of_length_le (by omega)]
  · rw [show k = 60 by omega]
theorem row_one {w : World} {B : Nat} {v : Value} {ini : List Fr} {f : Fr} (h : w.ownsRow B 26 4 v (ini ++ [f]).length (cellsOf (ini ++ [f]))) : w.ownsRow B 26 4 v (ini.length + 1) (cellsOf (ini ++ [f])) := by
  simpa using h
theorem two_one {w : World} {B : Nat} {v : Value} {ini : List Fr} {f : Fr} {xs : List Value} (h : w.ownsRow B 26 4 v (ini.length + 1 + 1) xs) : w.ownsRow B 26 4 v ((ini ++ [f]).length + 1) xs := by
  simpa using h
/-- Where Build's second loop stands. -/
def BRel2 (w : World) (ts : List Tok) (v : Value) (wr : World) : Prop := ∃ (ini : List Fr) (f : Fr), Stack wr (w.heap.size + 1) v (ini ++ [f]) ∧ ini.length ≤ 60 ∧ (∀ g ∈ ini, g.l.length ≤ 60) ∧ shutAll (ini.map Fr.l ++ [f.l]) = shutAll (builtN ts 60).ls ∧ Blk wr w.heap.size 26 zeroV ∧ Below w.heap.size w wr
def lenOf : Value → Nat
  | .slice _ n _ => n
  | _ => 0
/-- What Build hands back. -/
def BuildPost (ts : List Tok) (w : World) (e : Ending) (w' : World) : Prop := ∃ v', e = .returned (.tuple #[v', .bool (builtN ts 60).right, .int .i64 ((builtN ts 60).deep : Nat)]) ∧ In w' (fun g => w.heap.size ≤ g) (builtT ts) v' ∧ Below w.heap.size w w'
theorem build_end {w wr w2 : World} {ts : List Tok} {gs cs : Nat} {f : Fr} (hst : Stack wr (w.heap.size + 1) (.slice (some ⟨gs, 0, none⟩) 1 cs) [f]) (hsh : shutAll [f.l] = shutAll (builtN ts 60).ls) (hb : Below w.heap.size w wr) (h3 : Only [w.heap.size] wr w2) :
    BuildPost ts w (.returned (.tuple #[.agg #[.int .i64 2, .int .i64 0, .slice none 0 0, f.v], .bool (builtN ts 60).right, .int .i64 ((builtN ts 60).deep : Nat)])) w2 := by
  have hp := (Stack.pop (fs := []) hst).2
  refine ⟨_, rfl, ?_, hb.trans (h3.below hb.size (by simp))⟩
  have e : builtT ts = .mk 2 0 [] f.l := by unfold builtT; rw [← hsh]; rfl
  rw [e]
  exact hp.keep _ _ fun g hg hlt => ⟨h3.block g hlt (by simp; omega), by omega⟩
/-- Behind a round: the values as the walk has them. -/
theorem brel_of {w wx : World} {ts : List Tok} {k : Nat} {t : Tok} {fs : List Fr} {v right deep i : Value} (htk : ts[k]? = some t) (hk : k < 60) (hst : Stack wx (w.heap.size + 1) v fs) (hz : Blk wx w.heap.size 26 zeroV) (hb : Below w.heap.size w wx)
    (hls : ((builtN ts k).step t).ls = fs.map Fr.l) (hr : right = .bool ((builtN ts k).step t).right) (hd : deep = .int .i64 (((builtN ts k).step t).deep : Nat)) (hi : i = .int .i64 ((k : Int) + 1)) : BRel w ts v right deep i wx := by
  have hl := (List.getElem?_eq_some_iff.1 htk).1
  refine ⟨k + 1, fs, by omega, by omega, by rw [hi]; rfl, by rw [builtN_succ htk]; exact hr, by rw [builtN_succ htk]; exact hd, by rw [builtN_succ htk]; exact hls.symm, hst, hz, hb⟩

end Go.Proofs.YtodpojbgkeecnaaDoor
