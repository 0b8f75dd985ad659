/-
  A stream as plain data: what it was told; texts in memory; copy into a block that is known. Plain definitions and theorems; no condition.
-/
import Derived.Test.YtkmkblhmjeeaeaaGreatDoorM1
import Derived.Laws.CopyOwn
import Derived.StillTailTactics
import Derived.Deep.DeepCutAuto
import Derived.Deep.CutBlock
import Derived.Test.YtkmkblhmjeeaeaaGreatDoorCards
import Derived.Test.YtkmkblhmjeeaeaaGreatDoorTie
import Derived.WalkKit
import Derived.ProofKit
import Derived.OpenShut
import Derived.ShutString
import Derived.ChangeOld
import Derived.Below
import Derived.Deep.DeepHandedRow
import Derived.Lib.LaidTab
import Derived.Laws.BitsAllLaws
import Derived.Lib.Hide
section
set_option maxRecDepth 100000
set_option linter.unusedSimpArgs false
set_option linter.unusedVariables false
namespace Go.Proofs.YtkmkblhmjeeaeaaGreatDoor
open Go.RowKit

def chunk (m : List B8) (i : Nat) : List B8 := (m.drop (64 * i)).take 64
/-- The words behind the first i blocks. -/
def foldN (ks : List B32) (m : List B8) : Nat → S8
  | 0 => start8
  | i + 1 => turn8 ks (foldN ks m i) (chunk m i)
theorem chunk_append {m x : List B8} {i : Nat} (h : 64 * (i + 1) ≤ m.length) : chunk (m ++ x) i = chunk m i := by
  unfold chunk
  rw [List.drop_append_of_le_length (by omega), List.take_append_of_le_length (by rw [List.length_drop]; omega)]
theorem foldN_append (ks : List B32) {m x : List B8} : ∀ {i : Nat}, 64 * i ≤ m.length → foldN ks (m ++ x) i = foldN ks m i
  | 0, _ => rfl
  | i + 1, h => by rw [foldN, foldN, foldN_append ks (i := i) (by omega), chunk_append h]
theorem chunk_length {m : List B8} {i : Nat} (h : 64 * (i + 1) ≤ m.length) : (chunk m i).length = 64 := by
  unfold chunk
  rw [List.length_take, List.length_drop]
  omega

/-- The cells of a stream. -/
def strCells (ws : List B32) (rs : List B8) (n : Nat) : List Value := Wd ws ++ (Vb rs ++ [.int .i64 n])
theorem strCells_length {ws : List B32} {rs : List B8} {n : Nat} (h1 : ws.length = 8) (h2 : rs.length = 64) : (strCells ws rs n).length = 73 := by
  simp [strCells, Wd_length, Vb_length, h1, h2]
theorem strCells_oneCell (ws : List B32) (rs : List B8) (n : Nat) : ∀ u ∈ strCells ws rs n, u.oneCell' = true := by
  intro u hu
  rcases List.mem_append.1 hu with h | h
  · exact Wd_oneCell _ u h
  · rcases List.mem_append.1 h with h | h
    · exact Vb_oneCell _ u h
    · simp at h; subst h; rfl

/-- The stream at p was told just the bytes m. -/
def IsStr (ks : List B32) (w : World) (p : Nat) (m : List B8) : Prop := ∃ ws rs, Blk w p 198 (strCells ws rs m.length) ∧ ws.length = 8 ∧ rs.length = 64 ∧
  (0 < m.length → ws = (foldN ks m (m.length / 64)).list) ∧ rs.take (m.length % 64) = m.drop (64 * (m.length / 64))

theorem zeroCells_str : zeroCells = strCells (List.replicate 8 0#32) (List.replicate 64 0#8) 0 := by
  unfold zeroCells strCells Wd Vb nw nb
  rfl
theorem zero_str (ks : List B32) {w : World} {p : Nat} (h : Blk w p 198 zeroCells) : IsStr ks w p [] :=
  ⟨List.replicate 8 0#32, List.replicate 64 0#8, by rw [zeroCells_str] at h; exact h, rfl, rfl, fun h => by simp at h, rfl⟩
theorem IsStr.only {ks : List B32} {w w' : World} {p : Nat} {m : List B8} {S : List Nat} (h : IsStr ks w p m) (ho : Only S w w') (hp : p ∉ S) : IsStr ks w' p m := by
  obtain ⟨ws, rs, hb, h1, h2, h3, h4⟩ := h
  exact ⟨ws, rs, hb.only ho hp, h1, h2, h3, h4⟩
theorem IsStr.lt {ks : List B32} {w : World} {p : Nat} {m : List B8} (h : IsStr ks w p m) : p < w.heap.size := by
  obtain ⟨ws, rs, hb, _⟩ := h
  exact hb.lt
theorem IsStr.below {ks : List B32} {w w' : World} {p : Nat} {m : List B8} {B : Nat} (h : IsStr ks w p m) (ho : Below B w w') (hp : p < B) : IsStr ks w' p m := by
  obtain ⟨ws, rs, hb, h1, h2, h3, h4⟩ := h
  exact ⟨ws, rs, hb.below ho hp, h1, h2, h3, h4⟩

/-- A text: so many bytes in memory, outside block p. -/
structure Txt (w : World) (p : Nat) (A : Option Addr) (n c : Nat) (bs : List B8) : Prop where
  len : bs.length = n
  cap : n ≤ c
  capm : c ≤ maxLen
  cells : 0 < n → ∃ g o, A = some ⟨g, o, none⟩ ∧ g ≠ p ∧ ∀ j, j < n → w.cell? ⟨g, o + j, none⟩ = some (.int .u8 (nb (bs.getD j 0)))
theorem Txt.only {w w' : World} {p : Nat} {A : Option Addr} {n c : Nat} {bs : List B8} (h : Txt w p A n c bs) (ho : Only [p] w w') : Txt w' p A n c bs := by
  refine ⟨h.len, h.cap, h.capm, fun hn => ?_⟩
  obtain ⟨g, o, hA, hg, hc⟩ := h.cells hn
  refine ⟨g, o, hA, hg, fun j hj => ?_⟩
  have h0 := hc j hj
  rw [← h0]
  unfold World.cell?
  rw [show (⟨g, o + j, none⟩ : Addr).block = g from rfl, ho.block g (World.block_lt_of_cell? w _ h0) (by simp [hg])]
theorem Txt.below {w w' : World} {p B : Nat} {A : Option Addr} {n c : Nat} {bs : List B8} (h : Txt w p A n c bs) (ho : Below B w w') (hB : w.heap.size ≤ B) : Txt w' p A n c bs := by
  refine ⟨h.len, h.cap, h.capm, fun hn => ?_⟩
  obtain ⟨g, o, hA, hg, hc⟩ := h.cells hn
  refine ⟨g, o, hA, hg, fun j hj => (ho.cell ?_).trans (hc j hj)⟩
  have := World.block_lt_of_cell? w _ (hc j hj)
  show g < B
  have h2 : g < w.heap.size := this
  omega
/-- The text behind its first k bytes. -/
theorem Txt.drop {w : World} {p g o n c k : Nat} {bs : List B8} (h : Txt w p (some ⟨g, o, none⟩) n c bs) (hk : k ≤ n) (A : Option Addr) (hA : k < n → A = some ⟨g, o + k, none⟩) : Txt w p A (n - k) (c - k) (bs.drop k) := by
  refine ⟨by rw [List.length_drop, h.len], by have := h.cap; omega, by have := h.capm; omega, fun hn => ?_⟩
  obtain ⟨g', o', hA', hg, hc⟩ := h.cells (by omega)
  simp only [Option.some.injEq, Addr.mk.injEq, and_true] at hA'
  obtain ⟨rfl, rfl⟩ := hA'
  refine ⟨g, o + k, hA (by omega), hg, fun j hj => ?_⟩
  rw [Nat.add_assoc, hc (k + j) (by omega)]
  simp [List.getD_eq_getElem?_getD]

theorem over_str {ws : List B32} {rs bs : List B8} {n r : Nat} (hw : ws.length = 8) (hr : r + bs.length ≤ rs.length) : over (strCells ws rs n) (8 + r) (Vb bs) = strCells ws (rs.take r ++ (bs ++ rs.drop (r + bs.length))) n := by
  have hW : (Wd ws).length = 8 := by rw [Wd_length, hw]
  have hV : (Vb rs).length = rs.length := Vb_length rs
  unfold over strCells
  have e1 : (Wd ws ++ (Vb rs ++ [Value.int .i64 n])).take (8 + r) = Wd ws ++ Vb (rs.take r) := by
    rw [List.take_append, hW, Nat.add_sub_cancel_left, List.take_of_length_le (by omega), List.take_append_of_le_length (by omega), Vb_take]
  have e2 : (Wd ws ++ (Vb rs ++ [Value.int .i64 n])).drop (8 + r + (Vb bs).length) = Vb (rs.drop (r + bs.length)) ++ [Value.int .i64 n] := by
    rw [List.drop_append, hW, List.drop_eq_nil_of_le (by omega), List.nil_append, Vb_length, show 8 + r + bs.length - 8 = r + bs.length by omega, List.drop_append_of_le_length (by omega), Vb_drop]
  rw [e1, e2]
  simp [Vb_append]
theorem set_str {ws : List B32} {rs : List B8} {n k : Nat} (hw : ws.length = 8) (hr : rs.length = 64) : (strCells ws rs n).set 72 (.int .i64 (k : Nat)) = strCells ws rs k := by
  unfold strCells
  rw [List.set_append_right _ _ (by rw [Wd_length]; omega), List.set_append_right _ _ (by rw [Wd_length, Vb_length]; omega), Wd_length, Vb_length, hw, hr]
  rfl

/-- Where a telling stands: k bytes of the text were turned. -/
def TRel (ks : List B32) (w0 : World) (p : Nat) (m bs : List B8) (n c : Nat) (v : Value) (wx : World) : Prop := ∃ (k : Nat) (A' : Option Addr) (rs' : List B8), k ≤ n ∧ v = .slice A' (n - k) (c - k) ∧ Txt wx p A' (n - k) (c - k) (bs.drop k) ∧ (m.length + k) % 64 = 0 ∧ rs'.length = 64 ∧
  Blk wx p 198 (strCells (foldN ks (m ++ bs) ((m.length + k) / 64)).list rs' (m.length + n)) ∧ Only [p] w0 wx
def sliceLen : Value → Nat
  | .slice _ n _ => n
  | _ => 0

/-- The text fits into the block that was begun. -/
theorem str_small {ks : List B32} {w : World} {p n : Nat} {m bs rs : List B8} (hn : bs.length = n) (hr : rs.length = 64) (hrs : rs.take (m.length % 64) = m.drop (64 * (m.length / 64))) (hf : m.length % 64 + n < 64)
    (hb : Blk w p 198 (strCells (foldN ks m (m.length / 64)).list (rs.take (m.length % 64) ++ (bs ++ rs.drop (m.length % 64 + bs.length))) (m.length + n))) : IsStr ks w p (m ++ bs) := by
  have hl : (m ++ bs).length = m.length + n := by simp [hn]
  have hd : (m.length + n) / 64 = m.length / 64 := by omega
  have hm : (m.length + n) % 64 = m.length % 64 + n := by omega
  refine ⟨_, _, by rw [hl]; exact hb, rfl, by simp [hr]; omega, fun _ => ?_, ?_⟩
  · rw [hl, hd, foldN_append ks (by omega)]
  · rw [hl, hd, hm, ← List.append_assoc, List.take_append_of_le_length (by simp [hr]; omega), List.take_of_length_le (by simp [hr]; omega), hrs, List.drop_append_of_le_length (by omega)]

/-- The block that was begun is fullD. -/
theorem chunk_fill {m bs rs : List B8} {r q : Nat} (hq : q = m.length / 64) (hr : r = m.length % 64) (hrs : rs.take (m.length % 64) = m.drop (64 * (m.length / 64))) (hl : rs.length = 64) (hn : 64 - r ≤ bs.length) :
    rs.take r ++ (bs.take (64 - r) ++ rs.drop (r + (bs.take (64 - r)).length)) = chunk (m ++ bs) q := by
  subst hq hr
  have e1 : (bs.take (64 - m.length % 64)).length = 64 - m.length % 64 := by rw [List.length_take]; omega
  rw [e1, List.drop_eq_nil_of_le (by omega), List.append_nil, hrs]
  unfold chunk
  have hX : (m.drop (64 * (m.length / 64))).length = m.length % 64 := by rw [List.length_drop]; omega
  rw [List.drop_append_of_le_length (by omega), List.take_append, hX]
  congr 1
  exact (List.take_of_length_le (by omega)).symm
theorem rest_cell {w : World} {p n : Nat} {ws : List B32} {rs : List B8} (hb : Blk w p 198 (strCells ws rs n)) (hw : ws.length = 8) (hr : rs.length = 64) : ∀ j, j < 64 → w.cell? ⟨p, 8 + j, none⟩ = some (.int .u8 (nb (rs.getD j 0))) := by
  intro j hj
  rw [hb.cell]; unfold strCells
  rw [List.getElem?_append_right (by rw [Wd_length]; omega), Wd_length, hw, Nat.add_sub_cancel_left, List.getElem?_append_left (by rw [Vb_length]; omega), Vb_get, List.getD_eq_getElem?_getD, List.getElem?_eq_getElem (by omega)]
  rfl

/-- What is left of the text lies in the rest. -/
theorem str_last {ks : List B32} {w : World} {p n k : Nat} {m bs rs : List B8} (hn : bs.length = n) (hr : rs.length = 64) (hk : k ≤ n) (hz : (m.length + k) % 64 = 0) (hf : n - k < 64)
    (hb : Blk w p 198 (strCells (foldN ks (m ++ bs) ((m.length + k) / 64)).list (rs.take 0 ++ (bs.drop k ++ rs.drop (0 + (bs.drop k).length))) (m.length + n))) : IsStr ks w p (m ++ bs) := by
  have hl : (m ++ bs).length = m.length + n := by simp [hn]
  have hd : (m.length + n) / 64 = (m.length + k) / 64 := by omega
  have hm : (m.length + n) % 64 = n - k := by omega
  have h64 : 64 * ((m.length + k) / 64) = m.length + k := by omega
  refine ⟨_, _, by rw [hl]; exact hb, rfl, by simp [hr]; omega, fun _ => ?_, ?_⟩
  · rw [hl, hd]
  · rw [hl, hd, hm, h64, List.take_zero, List.nil_append, List.take_append_of_le_length (by simp [hn]), List.take_of_length_le (by simp [hn]), List.drop_append]
    simp

theorem tell_mid {ks : List B32} {w0 w : World} {p g o n c r : Nat} {m bs : List B8} (hn : 64 - r ≤ n) (h0 : 0 < r) (hr : r = m.length % 64) (ht : Txt w0 p (some ⟨g, o, none⟩) n c bs) (hO : Only [p] w0 w)
    (hb : Blk w p 198 (Wd (turn8 ks (foldN ks m (m.length / 64)) (chunk (m ++ bs) (m.length / 64))).list ++ (Vb (chunk (m ++ bs) (m.length / 64)) ++ [.int .i64 (m.length + n : Nat)])))
    (A' : Option Addr) (hA : 64 - r < n → A' = some ⟨g, o + (64 - r), none⟩) (c' : Nat) (hc : c' = c - (64 - r)) : TRel ks w0 p m bs n c (.slice A' (n - (64 - r)) c') w := by
  subst hc
  have hlen := ht.len
  have hq : (m.length + (64 - r)) / 64 = m.length / 64 + 1 := by omega
  refine ⟨64 - r, A', chunk (m ++ bs) (m.length / 64), hn, rfl, (ht.drop hn A' hA).only hO, by omega, chunk_length (by rw [List.length_append, hlen]; omega), ?_, hO⟩
  rw [hq, foldN, foldN_append ks (by omega)]
  exact hb
theorem tell_next {ks : List B32} {w0 w1 w : World} {p g o n c k : Nat} {m bs rs' : List B8} (hk : k ≤ n) (hz : (m.length + k) % 64 = 0) (h64 : 64 ≤ n - k) (hr' : rs'.length = 64) (ht : Txt w1 p (some ⟨g, o, none⟩) (n - k) (c - k) (bs.drop k)) (h1 : Only [p] w0 w1) (hO : Only [p] w1 w)
    (hb : Blk w p 198 (Wd (turn8 ks (foldN ks (m ++ bs) ((m.length + k) / 64)) ((bs.drop k).take 64)).list ++ (Vb rs' ++ [.int .i64 (m.length + n : Nat)])))
    (A' : Option Addr) (hA : 64 < n - k → A' = some ⟨g, o + 64, none⟩) (c' n' : Nat) (hc : c' = c - k - 64) (hn : n' = n - k - 64) : TRel ks w0 p m bs n c (.slice A' n' c') w := by
  subst hc hn
  have hq : (m.length + (k + 64)) / 64 = (m.length + k) / 64 + 1 := by omega
  have h64q : 64 * ((m.length + k) / 64) = m.length + k := by omega
  refine ⟨k + 64, A', rs', by omega, by rw [Nat.sub_sub, Nat.sub_sub], ?_, by omega, hr', ?_, h1.trans hO⟩
  · have := (ht.drop h64 A' hA).only hO
    rw [List.drop_drop, Nat.sub_sub, Nat.sub_sub] at this
    exact this
  · have hc : chunk (m ++ bs) ((m.length + k) / 64) = (bs.drop k).take 64 := by
      unfold chunk
      rw [h64q, List.drop_append, List.drop_eq_nil_of_le (by omega), List.nil_append, Nat.add_sub_cancel_left]
    rw [hq, foldN, hc]
    exact hb

/-- copy of a text into a block that is known. -/
theorem wpList_copy_blk {P : Program} {w : World} {ops : Array Oper} {rest : List Oper} {o : Oper} {a : Act} {Q : Exit → Act → World → Prop} (hgd : o.guard = none) (d s : Operand) (dT sT : TypeId)
    (ho : o.op = .call { callee := .builtin .copy, args := #[d, s], argTypes := #[dT, sT] }) (elem : TypeId) (hu : P.underlying dT = some (.slice elem)) (hsz : (P.info? elem).map (·.size) = some 1)
    (g off dLen dCap : Nat) (hd : a.eval d = .slice (some ⟨g, off, none⟩) dLen dCap) {A : Option Addr} {n c : Nat} {bs : List B8} (hs : a.eval s = .slice A n c)
    {t : TypeId} {cs : List Value} (hb : Blk w g t cs) (ht : Txt w g A n c bs) (hfit : off + dLen ≤ cs.length)
    (h : ∀ w', Blk w' g t (over cs off (Vb (bs.take dLen))) → Only [g] w w' → wpList P ops Q rest (a.put o.dst (goInt (bs.take dLen).length)) w') :
    wpList P ops Q (o :: rest) a w := by
  have hlen := ht.len
  by_cases h0 : Nat.min n dLen = 0
  · have he : bs.take dLen = [] := List.eq_nil_of_length_eq_zero (by rw [List.length_take, hlen]; rw [Nat.min_comm]; exact h0)
    refine wpList_copy_nothing hgd d s dT sT ho elem hu hsz _ _ dLen dCap n c hd hs h0 ?_
    have := h w (by rw [he]; simpa [over, Vb] using hb) (Only.refl _ _)
    rw [he] at this
    exact this
  · obtain ⟨g', o', rfl, hg, hc⟩ := ht.cells (by
      rcases Nat.eq_zero_or_pos n with h | h
      · subst h; exact absurd (Nat.zero_min dLen) h0
      · exact h)
    have hl : (Vb (bs.take dLen)).length = Nat.min n dLen := by rw [Vb_length, List.length_take, hlen, Nat.min_comm]
    have hmin : Nat.min n dLen ≤ dLen := Nat.min_le_right _ _
    refine wpList_copy_own hgd d s dT sT ho elem hu hsz g off dLen dCap ⟨g', o', none⟩ n c hd hs cs.toArray t hb (Vb (bs.take dLen)) hl ?_ (by simp; omega) (Vb_oneCell _) ?_
    · intro j v hv
      rw [Vb_get, List.getElem?_take] at hv
      split at hv
      · rw [Addr.add_mid]
        cases hx : bs[j]? with
        | none => rw [hx] at hv; cases hv
        | some x =>
          rw [hx] at hv
          simp only [Option.map_some, Option.some.injEq] at hv
          subst hv
          have hj : j < n := by have := (List.getElem?_eq_some_iff.1 hx).1; omega
          rw [hc j hj, List.getD_eq_getElem?_getD, hx]
          rfl
      · cases hv
    · have hB : Blk (w.setRow g ((cs.toArray).toList.take off ++ (Vb (bs.take dLen) ++ (cs.toArray).toList.drop (off + (Vb (bs.take dLen)).length))).toArray) g t (over cs off (Vb (bs.take dLen))) := by
        have := setRow_heap w g cs.toArray (cs.take off ++ (Vb (bs.take dLen) ++ cs.drop (off + (Vb (bs.take dLen)).length))).toArray t _ hb
        unfold Blk over
        simpa using this
      have := h _ hB ((Only.refl _ _).setRow (.inl (by simp)) _)
      rw [Vb_length]
      rw [Vb_length] at this
      exact this

end Go.Proofs.YtkmkblhmjeeaeaaGreatDoor
end

/-
  tell: a stream is told a text more. Conditions: the stream is known; the constants lie in their variable; at most 2^50 bytes in all.
-/

section
set_option maxRecDepth 100000
set_option linter.unusedSimpArgs false
set_option linter.unusedVariables false
namespace Go.Proofs.YtkmkblhmjeeaeaaGreatDoor
open Go.RowKit

theorem info3 : (Tryz.prog.info? 3).map (·.size) = some 1 := by kernel_rfl
theorem cell72 {w : World} {p : Nat} {ws : List B32} {rs : List B8} {n : Nat} (hb : Blk w p 198 (strCells ws rs n)) (hws : ws.length = 8) (hrs : rs.length = 64) : w.cell? ⟨p, 72, none⟩ = some (.int .i64 (n : Nat)) := by
  rw [hb.cell]; unfold strCells
  rw [List.getElem?_append_right (by rw [Wd_length]; omega), List.getElem?_append_right (by rw [Wd_length, Vb_length]; omega)]
  simp [Wd_length, Vb_length, hws, hrs]

theorem slice_rest (p r : Nat) (hr : r < 64) (W : World) : (Instr.sliceAt 177 (.pointer (some ⟨p, 8, none⟩)) (some (.int .i64 r)) none none).run Tryz.prog W = .ok (.slice (some ⟨p, 8 + r, none⟩) (64 - r) (64 - r)) W := by
  have hl : Tryz.prog.arrayLen 177 = 64 := by kernel_rfl
  have he : Tryz.prog.elem 177 = 5 := by kernel_rfl
  have hs : (sizeOf 5).run Tryz.prog W = .ok 1 W := by kernel_rfl
  have h := run_sliceAt_array_l (P := Tryz.prog) W 177 ⟨p, 8, none⟩ (by rw [hl, he]; exact Tryz.underlying177) .i64 r (by omega) (by rw [hl]; omega)
  rw [h, he, hs, hl]
  simp only [Result.andThen_ok, slicedAt, Int.toNat_natCast]
  rw [if_neg (by omega), Addr.add_mid, Nat.mul_one]

theorem slice_all (p : Nat) (W : World) : (Instr.sliceAt 177 (.pointer (some ⟨p, 8, none⟩)) none none none).run Tryz.prog W = .ok (.slice (some ⟨p, 8, none⟩) 64 64) W := by
  have hl : Tryz.prog.arrayLen 177 = 64 := by kernel_rfl
  have he : Tryz.prog.elem 177 = 5 := by kernel_rfl
  have hs : (sizeOf 5).run Tryz.prog W = .ok 1 W := by kernel_rfl
  have h := run_sliceAt_array_all (P := Tryz.prog) W 177 ⟨p, 8, none⟩ (by rw [hl, he]; exact Tryz.underlying177)
  rw [h, he, hs, hl]
  simp only [Result.andThen_ok, slicedAt]
  rw [if_neg (by omega), Addr.add_mid]

theorem slice_64 (g o n c : Nat) (h : 64 ≤ c) (W : World) : (Instr.sliceAt 40 (.slice (some ⟨g, o, none⟩) n c) none (some (.int .i64 64)) none).run Tryz.prog W = .ok (.slice (some ⟨g, o, none⟩) 64 c) W := by
  have he : Tryz.prog.elem 40 = 5 := by kernel_rfl
  have hs : (sizeOf 5).run Tryz.prog W = .ok 1 W := by kernel_rfl
  have hu : Tryz.prog.underlying 40 = some (.slice (Tryz.prog.elem 40)) := by rw [he]; exact Tryz.underlying40
  rw [run_sliceAt_slice _ _ _ _ _ _ hu, run_slice_h _ _ _ _ _ hu .i64 64 (by omega) (by omega), he, hs]
  simp only [Result.andThen_ok, sliced]
  simp [Addr.add_mid]

set_option maxHeartbeats 1000000 in
set_option maxRecDepth 100000 in
theorem tell_any (ks : List B32) (w : World) (p : Nat) (m : List B8) (A : Option Addr) (n c : Nat) (bs : List B8) (hp : 1 < p) (hK : Roots ks w) (hs : IsStr ks w p m) (ht : Txt w p A n c bs) (hlen : m.length + n ≤ 1125899906842624) :
    Calls Tryz.prog 123 #[.pointer (some ⟨p, 0, none⟩), .slice A n c] w fun e w' => e = .returned (.tuple #[]) ∧ IsStr ks w' p (m ++ bs) ∧ Only [p] w w' := by
  obtain ⟨ws, rs, hb, hws, hrs, hm1, hm2⟩ := hs
  have hcm := ht.capm
  have hcap := ht.cap
  have c72 := cell72 hb hws hrs
  unfold maxLen at hcm
  have HB := Lib.hid hb
  have HM1 := Lib.hid hm1
  have HM2 := Lib.hid hm2
  have HK := Lib.hid hK
  have HT := Lib.hid ht
  clear hb hm1 hm2 hK ht
  go_enter Tryz.func123, Tryz.ntmps123
  go_upto_if 10 with fail
  go_cut [] (fun wx => Blk wx p 198 (strCells (foldN ks m (m.length / 64)).list rs m.length) ∧ Only [p] w wx)
  case first =>
    by_cases h0 : m.length = 0
    · have hd : ((m.length : Int) == 0) = true := by simp [h0]
      go_wp2_with (go_at_call 146; refine (begin_any w p ws hws _ HB.out).mono ?_; rintro e w' ⟨rfl, h1, h2⟩)
      go_meet
      refine ⟨?_, h2⟩
      rw [show m.length / 64 = 0 by omega]
      exact h1
    · have hd : ((m.length : Int) == 0) = false := beq_eq_false_iff_ne.2 (by omega)
      go_wp2_with fail
      go_meet
      refine ⟨?_, Only.refl _ _⟩
      rw [← HM1.out (by omega)]
      exact HB.out
  case rest =>
    obtain ⟨hb, ho⟩ := hcut
    obtain ⟨r, hr⟩ : ∃ r, r = m.length % 64 := ⟨_, rfl⟩
    have hri : (m.length : Int) % 64 = (r : Int) := by omega
    have hr64 : r < 64 := by omega
    have c72 : wc.cell? ⟨p, 72, none⟩ = some (.int .i64 (m.length : Nat)) := cell72 hb rfl hrs
    have hfz := hb.frozen 72
    have HR := Lib.hid hr
    have HB2 := Lib.hid hb
    have HO := Lib.hid ho
    clear hb ho hr
    go_upto_if 30 with (refine wpList_store_one rfl 3 (.tmp 28) (.tmp 26) rfl p 72 .i64 _ rfl rfl HB2.out (by rw [strCells_length rfl hrs]; omega) info3 ?_; intro w2 hb2 o2)
    rw [show ((m.length : Int) + (n : Int)) = ((m.length + n : Nat) : Int) by omega, set_str rfl hrs] at hb2
    have HB3 := Lib.hid hb2
    have HO2 := Lib.hid (HO.out.trans o2)
    clear hb2 o2 c72 hfz
    go_cut [1] (fun v wx => TRel ks w p m bs n c v wx)
    case first =>
      by_cases h0 : 0 < r
      · have hd : decide (0 < r) = true := decide_eq_true h0
        have hbl := HT.out.len
        have hsl := slice_rest p r hr64
        by_cases hA : n < 64 - r
        · have hmin : min (64 - r) n = n := by omega
          have htk : bs.take (64 - r) = bs := List.take_of_length_le (by omega)
          go_wp2_with (refine wpList_copy_blk rfl (.tmp 35) (.tmp 36) 40 40 rfl 5 Tryz.underlying40 info5 p (8 + r) (64 - r) (64 - r) rfl rfl HB3.out (HT.out.only HO2.out) (by rw [strCells_length rfl hrs]; omega) ?_; intro w3 hb3 o3)
          rw [htk, over_str rfl (by rw [hrs, hbl]; omega), HR.out] at hb3
          refine bodyPost_ret (results_none rfl _ _ _) rfl ⟨rfl, ?_, HO2.out.trans o3⟩
          exact str_small hbl hrs HM2.out (by have := HR.out; omega) hb3
        · have hmin : min (64 - r) n = 64 - r := by omega
          go_wp2_with (refine wpList_copy_blk rfl (.tmp 35) (.tmp 36) 40 40 rfl 5 Tryz.underlying40 info5 p (8 + r) (64 - r) (64 - r) rfl rfl HB3.out (HT.out.only HO2.out) (by rw [strCells_length rfl hrs]; omega) ?_; intro w3 hb3 o3)
          rw [over_str rfl (by rw [hrs, List.length_take]; omega), chunk_fill rfl HR.out HM2.out hrs (by omega)] at hb3
          have hsa := slice_all p
          have HB4 := Lib.hid hb3.drew
          have HO4 := Lib.hid (HO2.out.trans o3)
          clear hb3 o3
          go_still_tail 7, (by kernel_rfl)
          change wpList _ _ _ _ _ w3.drew
          have hq64 : (chunk (m ++ bs) (m.length / 64)).length = 64 := chunk_length (by rw [List.length_append, hbl]; have := HR.out; omega)
          generalize hw4 : w3.drew = w4 at HB4
          have HO5 : Hid (Only [p] w w4) := by rw [← hw4]; exact HO4.out.drew
          clear HO4 hw4
          obtain ⟨g, o, rfl, hgp, -⟩ := HT.out.cells (by omega)
          go_wp2_with (go_at_call 147; refine (turn_any ks w4 p p 8 64 (foldN ks m (m.length / 64)) (Vb (chunk (m ++ bs) (m.length / 64)) ++ [.int .i64 (m.length + n : Nat)]) (chunk (m ++ bs) (m.length / 64)) hp (HK.out.only HO5.out (by simp; omega)) HB4.out (rest_cell HB4.out rfl hq64)).mono ?_; rintro e w5 ⟨rfl, h5, o5⟩)
          all_goals go_meet
          all_goals first
            | exact tell_mid (by omega) h0 HR.out HT.out (HO5.out.trans o5) h5 _ (fun _ => rfl) _ rfl
            | exact tell_mid (by omega) h0 HR.out HT.out (HO5.out.trans o5) h5 _ (fun h => absurd h (by omega)) _ (by omega)
      · obtain rfl : r = 0 := by omega
        have hd : decide (0 < 0) = false := by decide
        go_wp2_with fail
        go_meet
        refine ⟨0, A, rs, by omega, rfl, by simpa using HT.out.only HO2.out, by have := HR.out; omega, hrs, ?_, HO2.out⟩
        rw [Nat.add_zero, foldN_append ks (by omega)]
        exact HB3.out
    case rest =>
      clear HB2 HO HB3 HO2 c72
      go_wp2_with fail
      go_loopw [1] (fun v wr => TRel ks w p m bs n c v wr) (fun v _ => sliceLen v)
      case atStart => exact hcut
      case round =>
        clear hcut
        obtain ⟨k, A', rs', hk, rfl, hT, hz, hr', hb, hO⟩ := hrel
        have hcap' := hT.cap
        have hlen' := hT.len
        have hbl := HT.out.len
        by_cases h64 : 64 ≤ n - k
        · obtain ⟨g, o, rfl, hgp, hcells⟩ := hT.cells (by omega)
          have HTK := Lib.hid hT
          have HBK := Lib.hid hb
          have HOK := Lib.hid hO
          have HCS := Lib.hid hcells
          clear hT hb hO hcells
          have hs64 := slice_64 g o (n - k) (c - k) (by omega)
          go_wp2_with fail
          go_still_tail 5, (by kernel_rfl)
          change wpList _ _ _ _ _ wr.drew
          have hb4 : Blk wr.drew p 198 (Wd (foldN ks (m ++ bs) ((m.length + k) / 64)).list ++ (Vb rs' ++ [.int .i64 (m.length + n : Nat)])) := HBK.out.drew
          have hc4 : ∀ j, j < 64 → wr.drew.cell? ⟨g, o + j, none⟩ = some (.int .u8 (nb (((bs.drop k).take 64).getD j 0))) := by
            intro j hj
            refine (HCS.out j (by omega)).trans ?_
            simp [List.getD_eq_getElem?_getD, hj]
          have ho4 : Only [p] wr wr.drew := (Only.refl _ _).drew
          have hk4 : Roots ks wr.drew := HK.out.only (HOK.out.trans ho4) (by simp; omega)
          generalize wr.drew = w4 at hb4 hc4 ho4 hk4
          have HB4 := Lib.hid hb4
          have HC4 := Lib.hid hc4
          have HO4 := Lib.hid ho4
          have HK4 := Lib.hid hk4
          clear hb4 hc4 ho4 hk4
          go_wp2_with (go_at_call 147; refine (turn_any ks w4 p g o (c - k) (foldN ks (m ++ bs) ((m.length + k) / 64)) (Vb rs' ++ [.int .i64 (m.length + n : Nat)]) ((bs.drop k).take 64) hp HK4.out HB4.out HC4.out).mono ?_; rintro e w5 ⟨rfl, h5, o5⟩)
          have hcap2 := HTK.out.cap
          go_roundw
          case rel => exact tell_next hk hz h64 hr' HTK.out HOK.out (HO4.out.trans o5) h5 _ (fun h => by rw [if_neg (by omega)]) _ _ rfl rfl
          case measure => simp [sliceLen]; omega
        · have HTK := Lib.hid hT
          have HBK := Lib.hid hb
          have HOK := Lib.hid hO
          clear hT hb hO
          have hsa := slice_all p
          go_wp2_with (refine wpList_copy_blk rfl (.tmp 67) (.tmp 68) 40 40 rfl 5 Tryz.underlying40 info5 p 8 64 64 rfl rfl HBK.out HTK.out (by rw [strCells_length rfl hr']; omega) ?_; intro w3 hb3 o3)
          rw [List.take_of_length_le (by rw [HTK.out.len]; omega)] at hb3
          have hb3 : Blk w3 p 198 (over (strCells (foldN ks (m ++ bs) ((m.length + k) / 64)).list rs' (m.length + n)) (8 + 0) (Vb (bs.drop k))) := hb3
          rw [over_str rfl (by rw [hr', HTK.out.len]; omega)] at hb3
          go_end0
          exact ⟨rfl, str_last hbl hr' hk hz (by omega) hb3, HOK.out.trans o3⟩

end Go.Proofs.YtkmkblhmjeeaeaaGreatDoor
end

/-
  Sum and Write. Conditions: the stream is known; the constants lie in their variable; at most 2^49 bytes in all.
-/

section
set_option maxRecDepth 100000
set_option linter.unusedSimpArgs false
set_option linter.unusedVariables false
namespace Go.Proofs.YtkmkblhmjeeaeaaGreatDoor
open Go.RowKit

/-- The digest, plainly. -/
def fullD (m : List B8) : List B8 := m ++ endB m.length
def sha (ks : List B32) (m : List B8) : List B8 := outB (foldN ks (fullD m) ((fullD m).length / 64)) 8
theorem sha_length (ks : List B32) (m : List B8) : (sha ks m).length = 32 := outB_length _ 8

theorem txt_of_owned {w : World} {B p g n c : Nat} {bs : List B8} (h : w.ownsRow B 5 1 (.slice (some ⟨g, 0, none⟩) n c) n (Vb bs)) (hp : p < B) : Txt w p (some ⟨g, 0, none⟩) n c bs := by
  have hl : bs.length = n := by have := h.1; rw [Vb_length] at this; omega
  have hgb : B ≤ g ∧ n ≤ c ∧ c ≤ maxLen := by
    rcases h.2 with ⟨h', _⟩ | ⟨g', cap', cur, h', h1, _, h2, h3, _, _⟩
    · simp at h'
    · simp only [Value.slice.injEq, Option.some.injEq, Addr.mk.injEq, and_true, true_and] at h'
      obtain ⟨rfl, rfl⟩ := h'
      exact ⟨h1, h2, h3⟩
  refine ⟨hl, hgb.2.1, hgb.2.2, fun _ => ⟨g, 0, rfl, by omega, fun j hj => ?_⟩⟩
  rw [Nat.zero_add, h.cellAt j (by omega), Vb_get, List.getD_eq_getElem?_getD, List.getElem?_eq_getElem (by omega)]
  rfl

theorem IsStr.words {ks : List B32} {w : World} {p : Nat} {m : List B8} (h : IsStr ks w p m) (hm : 0 < m.length) : ∃ tl, Blk w p 198 (Wd (foldN ks m (m.length / 64)).list ++ tl) := by
  obtain ⟨ws, rs, hb, h1, h2, h3, h4⟩ := h
  rw [h3 hm] at hb
  exact ⟨_, hb⟩
theorem IsStr.len {ks : List B32} {w : World} {p : Nat} {m : List B8} (h : IsStr ks w p m) : w.cell? ⟨p, 72, none⟩ = some (.int .i64 (m.length : Nat)) := by
  obtain ⟨ws, rs, hb, h1, h2, h3, h4⟩ := h
  exact cell72 hb h1 h2

theorem fork_str (ks : List B32) (w : World) (p : Nat) (m : List B8) (h : IsStr ks w p m) : Calls Tryz.prog 148 #[.pointer (some ⟨p, 0, none⟩)] w fun e w' => ∃ q, e = .returned (.pointer (some ⟨q, 0, none⟩)) ∧ w.heap.size ≤ q ∧ IsStr ks w' q m ∧ Below w.heap.size w w' := by
  obtain ⟨ws, rs, hb, h1, h2, h3, h4⟩ := h
  refine (fork_any w p _ (strCells_oneCell ws rs m.length) (strCells_length h1 h2) hb).mono ?_
  rintro e w' ⟨q, rfl, hq, hb', hbel⟩
  exact ⟨q, rfl, hq, ⟨ws, rs, hb', h1, h2, h3, h4⟩, hbel⟩
theorem fork_str_nil (ks : List B32) (w : World) : Calls Tryz.prog 148 #[.pointer none] w fun e w' => ∃ q, e = .returned (.pointer (some ⟨q, 0, none⟩)) ∧ w.heap.size ≤ q ∧ IsStr ks w' q [] ∧ Below w.heap.size w w' := by
  refine (fork_nil w).mono ?_
  rintro e w' ⟨rfl, hb, hbel⟩
  exact ⟨_, rfl, Nat.le_refl _, zero_str ks hb, hbel⟩

/-- A stream, or nil, that was told m. -/
def PtrStr (ks : List B32) (w : World) (a : Option Addr) (m : List B8) : Prop := (a = none ∧ m = []) ∨ ∃ p, a = some ⟨p, 0, none⟩ ∧ IsStr ks w p m
theorem fork_ptr (ks : List B32) (w : World) (a : Option Addr) (m : List B8) (h : PtrStr ks w a m) : Calls Tryz.prog 148 #[.pointer a] w fun e w' => ∃ q, e = .returned (.pointer (some ⟨q, 0, none⟩)) ∧ w.heap.size ≤ q ∧ IsStr ks w' q m ∧ Below w.heap.size w w' := by
  rcases h with ⟨rfl, rfl⟩ | ⟨p, rfl, h⟩
  · exact fork_str_nil ks w
  · exact fork_str ks w p m h

set_option maxHeartbeats 1000000 in
set_option maxRecDepth 100000 in
theorem sum_any (ks : List B32) (w : World) (a : Option Addr) (m : List B8) (hK : Roots ks w) (h : PtrStr ks w a m) (hm : m.length ≤ 562949953421312) :
    Calls Tryz.prog 124 #[.pointer a] w fun e w' => e = .returned (.agg (Vb (sha ks m)).toArray) ∧ Below w.heap.size w w' := by
  have hpos := hK.pos
  have h1 : PtrStr ks (w.alloc (.cells (List.replicate 32 (Value.int .u8 0)).toArray 168)) a m := by
    rcases h with h | ⟨p, rfl, h⟩
    · exact .inl h
    · exact .inr ⟨p, rfl, h.below ((Below.refl _ _).alloc (Nat.le_refl _) _) h.lt⟩
  have HK := Lib.hid hK
  clear hK h
  go_enter Tryz.func124, Tryz.ntmps124
  go_wp2_with fail
  refine (fork_ptr ks _ a m h1).mono ?_
  clear h1
  rintro e w1 ⟨q, rfl, hq, hs1, hb1⟩
  have HR1 := Lib.hid ((Blk.new w 168 (List.replicate 32 (.int .u8 0))).below hb1 (by simp))
  have hb1' : Below w.heap.size w w1 := ((Below.refl _ _).alloc (Nat.le_refl _) _).trans (hb1.mono (by simp))
  have hsz1 := hb1'.size
  have hq1 := hs1.lt
  have c72 := hs1.len
  have HS1 := Lib.hid hs1
  have HB1 := Lib.hid hb1'
  have hq0 : w.heap.size < q := by simp at hq; omega
  clear hs1 hb1 hb1'
  go_wp2_with fail
  refine (ending_any w1 m.length (by omega)).mono ?_
  rintro e w2 ⟨g, c, rfl, hown, hb2⟩
  have ht2 : Txt w2 q (some ⟨g, 0, none⟩) (endB m.length).length c (endB m.length) := txt_of_owned hown hq1
  have hs2 := HS1.out.below hb2 hq1
  have hB2 : Below w.heap.size w w2 := HB1.out.trans (hb2.mono hsz1)
  have hK2 := HK.out.below hB2 hpos
  have hR2 := HR1.out.below hb2 (by omega)
  have HOLD := Lib.hid (And.intro ht2 (And.intro hs2 (And.intro hB2 (And.intro hK2 hR2))))
  clear hown ht2 hs2 hB2 hK2 hR2 hb2
  go_wp2_with fail
  have hel := endB_length m.length
  have hgl := gap_lt m.length
  refine (tell_any ks w2 q m (some ⟨g, 0, none⟩) (endB m.length).length c (endB m.length) (by omega) HOLD.out.2.2.2.1 HOLD.out.2.1 HOLD.out.1 (by omega)).mono ?_
  rintro e w3 ⟨rfl, hs3, ho3⟩
  have hB3 : Below w.heap.size w w3 := HOLD.out.2.2.1.trans (ho3.below (B := w.heap.size) HOLD.out.2.2.1.size (by simp; omega))
  have hR3 := HOLD.out.2.2.2.2.only ho3 (by simp; omega)
  obtain ⟨tl, hw3⟩ := hs3.words (by rw [List.length_append]; omega)
  have H3 := Lib.hid (And.intro hB3 (And.intro hR3 hw3))
  clear hs3 ho3 hB3 hR3 hw3
  go_wp2_with fail
  refine (bytes_any w3 q _ tl H3.out.2.2).mono ?_
  rintro e w4 ⟨he, hb4⟩
  have he2 : e = .returned (.agg (Vb (sha ks m)).toArray) := he
  clear he
  subst he2
  have hB4 : Below w.heap.size w w4 := H3.out.1.trans (hb4.mono H3.out.1.size)
  have hR4 : Blk w4 w.heap.size 168 (List.replicate 32 (.int .u8 0)) := H3.out.2.1.below hb4 (by have := H3.out.2.1.lt; exact this)
  have H4 := Lib.hid (And.intro hB4 hR4)
  clear hb4 hB4 hR4
  go_wp2_with (refine wpList_store_blk rfl 168 (.tmp 2) (.tmp 16) rfl w.heap.size 0 (Vb (sha ks m)) rfl rfl H4.out.2 (by simp [Vb_length, sha_length]) (info31.trans (by simp [Vb_length, sha_length])) (Vb_oneCell _) ?_; intro w5 hA hO)
  rw [over_whole (by simp [Vb_length, sha_length])] at hA
  refine bodyPost_ret (v := .agg (Vb (sha ks m)).toArray) ?_ rfl ⟨rfl, ?_⟩
  · exact ret_cell rfl rfl (run_loadVar_mid _ _ 0 168 _ _ hA.range Tryz.underlying168 rfl (info31.trans (by simp [Vb_length, sha_length])))
  · exact H4.out.1.trans (hO.below (B := w.heap.size) H4.out.1.size (by simp))

/-- Texts: so many slices in memory, outside block p, and what they hold. -/
structure Txts (w : World) (p : Nat) (L : Option Addr) (n : Nat) (xs : List (List B8)) : Prop where
  len : xs.length = n
  cells : 0 < n → ∃ g o, L = some ⟨g, o, none⟩ ∧ g ≠ p ∧ ∀ i x, xs[i]? = some x → ∃ A k c, w.cell? ⟨g, o + i, none⟩ = some (.slice A k c) ∧ Txt w p A k c x
theorem Txts.only {w w' : World} {p : Nat} {L : Option Addr} {n : Nat} {xs : List (List B8)} (h : Txts w p L n xs) (ho : Only [p] w w') : Txts w' p L n xs := by
  refine ⟨h.len, fun hn => ?_⟩
  obtain ⟨g, o, hL, hg, hc⟩ := h.cells hn
  refine ⟨g, o, hL, hg, fun i x hx => ?_⟩
  obtain ⟨A, k, c, h0, ht⟩ := hc i x hx
  refine ⟨A, k, c, ?_, ht.only ho⟩
  rw [← h0]
  unfold World.cell?
  rw [show (⟨g, o + i, none⟩ : Addr).block = g from rfl, ho.block g (World.block_lt_of_cell? w _ h0) (by simp [hg])]
theorem Txts.below {w w' : World} {p B : Nat} {L : Option Addr} {n : Nat} {xs : List (List B8)} (h : Txts w p L n xs) (ho : Below B w w') (hB : w.heap.size ≤ B) : Txts w' p L n xs := by
  refine ⟨h.len, fun hn => ?_⟩
  obtain ⟨g, o, hL, hg, hc⟩ := h.cells hn
  refine ⟨g, o, hL, hg, fun i x hx => ?_⟩
  obtain ⟨A, k, c, h0, ht⟩ := hc i x hx
  refine ⟨A, k, c, (ho.cell ?_).trans h0, ht.below ho hB⟩
  have h1 : g < w.heap.size := World.block_lt_of_cell? w _ h0
  show g < B
  omega

theorem take_flat {xs : List (List B8)} {i : Nat} {x : List B8} (h : xs[i]? = some x) : (xs.take (i + 1)).flatten = (xs.take i).flatten ++ x := by
  obtain ⟨hi, rfl⟩ := List.getElem?_eq_some_iff.1 h
  rw [List.take_succ_eq_append_getElem hi, List.flatten_append]
  simp
theorem take_flat_le (xs : List (List B8)) (i : Nat) : (xs.take i).flatten.length ≤ xs.flatten.length := by
  conv => rhs; rw [← List.take_append_drop i xs, List.flatten_append, List.length_append]
  omega

end Go.Proofs.YtkmkblhmjeeaeaaGreatDoor
end

/-
  The digests of no bytes and of abc, reckoned by the kernel. No condition.
-/

section
set_option maxRecDepth 100000
set_option linter.unusedSimpArgs false
set_option linter.unusedVariables false
namespace Go.Proofs.YtkmkblhmjeeaeaaGreatDoor
open Go.RowKit

/-- The steps' constants. -/
def rootsZ : List Int := [1116352408, 1899447441, 3049323471, 3921009573, 961987163, 1508970993, 2453635748, 2870763221, 3624381080, 310598401, 607225278, 1426881987, 1925078388, 2162078206, 2614888103, 3248222580, 3835390401, 4022224774, 264347078, 604807628, 770255983, 1249150122, 1555081692, 1996064986, 2554220882, 2821834349, 2952996808, 3210313671, 3336571891, 3584528711, 113926993, 338241895, 666307205, 773529912, 1294757372, 1396182291, 1695183700, 1986661051, 2177026350, 2456956037, 2730485921, 2820302411, 3259730800, 3345764771, 3516065817, 3600352804, 4094571909, 275423344, 430227734, 506948616, 659060556, 883997877, 958139571, 1322822218, 1537002063, 1747873779, 1955562222, 2024104815, 2227730452, 2361852424, 2428436474, 2756734187, 3204031479, 3329325298]
def Ks : List B32 := rootsZ.map fun z => BitVec.ofInt 32 z

/-- The sign of four bits. -/
def signs : List B8 := [48, 49, 50, 51, 52, 53, 54, 55, 56, 57, 97, 98, 99, 100, 101, 102]
def sign (i : Nat) : B8 := signs.getD i 0
/-- The signs of the first k bytes. -/
def hexS (d : List B8) : Nat → List B8
  | 0 => []
  | k + 1 => hexS d k ++ [sign ((d.getD k 0).toNat / 16), sign ((d.getD k 0).toNat % 16)]
theorem hexS_length (d : List B8) : ∀ k, (hexS d k).length = 2 * k
  | 0 => rfl
  | k + 1 => by simp [hexS, hexS_length d k]; omega

def textA : List B8 := [101, 51, 98, 48, 99, 52, 52, 50, 57, 56, 102, 99, 49, 99, 49, 52, 57, 97, 102, 98, 102, 52, 99, 56, 57, 57, 54, 102, 98, 57, 50, 52, 50, 55, 97, 101, 52, 49, 101, 52, 54, 52, 57, 98, 57, 51, 52, 99, 97, 52, 57, 53, 57, 57, 49, 98, 55, 56, 53, 50, 98, 56, 53, 53]
def textB : List B8 := [98, 97, 55, 56, 49, 54, 98, 102, 56, 102, 48, 49, 99, 102, 101, 97, 52, 49, 52, 49, 52, 48, 100, 101, 53, 100, 97, 101, 50, 50, 50, 51, 98, 48, 48, 51, 54, 49, 97, 51, 57, 54, 49, 55, 55, 97, 57, 99, 98, 52, 49, 48, 102, 102, 54, 49, 102, 50, 48, 48, 49, 53, 97, 100]

set_option maxRecDepth 1000000 in
theorem known_none : hexS (sha Ks []) 32 = textA := by decide +kernel
set_option maxRecDepth 1000000 in
theorem known_abc : hexS (sha Ks [97, 98, 99]) 32 = textB := by decide +kernel

end Go.Proofs.YtkmkblhmjeeaeaaGreatDoor
end

/-
  What every row of this seat shares: its list gives the constants; a world for the witness. No condition of its own.
-/

section
set_option maxRecDepth 100000
set_option linter.unusedSimpArgs false
set_option linter.unusedVariables false
namespace Go.Proofs.YtkmkblhmjeeaeaaGreatDoor
open Go.ChangeShapes Go.WideShapes Go.ChangeAt Go.RowKit

theorem own : ownKnob Tryz.prog.godebug = none := by kernel_rfl
theorem laidOut : laidOutB Tryz.prog = true := by kernel_rfl
theorem gTab : Tryz.prog.globalNamed "creel/digest.roots" = some 1 := by kernel_rfl
theorem gTabType : (Tryz.prog.globals[1]?).map (·.type) = some 237 := by kernel_rfl
theorem cells74 : Tryz.prog.cellsOf 237 = 64 := by kernel_rfl
theorem cells39 : Tryz.prog.cellsOf 121 = 1 := by kernel_rfl

theorem table {W : World} (h : laidMetH Tryz.prog [("creel/digest.roots", Rows.laid_creel_digest_roots)] W) : Lib.TabIs Tryz.prog W "creel/digest.roots" .u32 rootsZ :=
  Lib.tabIs_of_head (rest := []) gTab gTabType Tryz.underlying237 Tryz.underlying121 cells39 cells74 h
theorem roots_nat : ∀ i : Nat, i < 64 → rootsZ.getD i 0 = nw (Ks.getD i 0) := by decide +kernel
theorem roots_of {W : World} (h : laidMetH Tryz.prog [("creel/digest.roots", Rows.laid_creel_digest_roots)] W) : Roots Ks W := by
  intro i hi
  have := (table h).cell gTab i hi
  rw [roots_nat i hi] at this
  exact this

/-- A world for the witness: the settled one, the variable holding what its initialiser lays. -/
noncomputable def laidWorld (os : Os) : World :=
  { World.holding Tryz.prog os ⟨#[], #[], []⟩ with heap := (World.holding Tryz.prog os ⟨#[], #[], []⟩).heap.modify 1 fun
      | .cells _ t frozen => .cells (rootsZ.map fun z => Value.int .u32 z).toArray t frozen
      | o => o }

end Go.Proofs.YtkmkblhmjeeaeaaGreatDoor
end

/-
  Modes, plainly: what is wrong with a stat, a mode's text and the mode of a text, who may, what is refused, numbers and cuts. Plain theorems, no condition but those in each.
-/

section
set_option linter.unusedSimpArgs false
set_option linter.unusedVariables false
set_option maxRecDepth 100000
namespace Go.Proofs.YtkmkblhmjeeaeaaGreatDoor
open Go.RowKit

/-- What is wrong with a stat. -/
def chk (k m o g : Int) : Int :=
  if k < 0 ∨ 4 < k then 17 else if m < 0 ∨ 4095 < m then 11 else if o < 0 ∨ 65535 < o ∨ g < 0 ∨ 65535 < g then 1 else 0
theorem chk_type {k m o g : Int} (h : k < 0 ∨ 4 < k) : chk k m o g = 17 := by unfold chk; rw [if_pos h]
theorem chk_mode {k m o g : Int} (h0 : 0 ≤ k) (h1 : k ≤ 4) (h : m < 0 ∨ 4095 < m) : chk k m o g = 11 := by unfold chk; rw [if_neg (by omega), if_pos h]
theorem chk_arg {k m o g : Int} (h0 : 0 ≤ k) (h1 : k ≤ 4) (h2 : 0 ≤ m) (h3 : m ≤ 4095) (h : o < 0 ∨ 65535 < o ∨ g < 0 ∨ 65535 < g) : chk k m o g = 1 := by unfold chk; rw [if_neg (by omega), if_neg (by omega), if_pos h]
theorem chk_ok {k m o g : Int} (h0 : 0 ≤ k) (h1 : k ≤ 4) (h2 : 0 ≤ m) (h3 : m ≤ 4095) (h4 : 0 ≤ o) (h5 : o ≤ 65535) (h6 : 0 ≤ g) (h7 : g ≤ 65535) : chk k m o g = 0 := by unfold chk; rw [if_neg (by omega), if_neg (by omega), if_neg (by omega)]
theorem chk_zero {k m o g : Int} (h : chk k m o g = 0) : (0 ≤ k ∧ k ≤ 4) ∧ (0 ≤ m ∧ m ≤ 4095) ∧ (0 ≤ o ∧ o ≤ 65535) ∧ 0 ≤ g ∧ g ≤ 65535 := by
  unfold chk at h
  split at h
  · omega
  · split at h
    · omega
    · split at h <;> omega
theorem chk_bd (k m o g : Int) : 0 ≤ chk k m o g ∧ chk k m o g ≤ 17 := by
  unfold chk
  split
  · omega
  · split
    · omega
    · split <;> omega

/-- A mode's text. -/
def octL (m : Nat) : List UInt8 := [UInt8.ofNat (48 + m / 512), UInt8.ofNat (48 + m / 64 % 8), UInt8.ofNat (48 + m / 8 % 8), UInt8.ofNat (48 + m % 8)]
def modeText (m : Int) : List UInt8 := if 0 ≤ m ∧ m ≤ 4095 then octL m.toNat else []
def parse8 (acc : Nat) : List UInt8 → Option Nat
  | [] => some acc
  | c :: r => if 48 ≤ c.toNat ∧ c.toNat ≤ 55 then parse8 (acc * 8 + (c.toNat - 48)) r else none
/-- The mode of a text. -/
def modeParse (l : List UInt8) : Option Nat := if l.length = 4 then parse8 0 l else none

theorem oct_digit (q : Nat) (h : q < 8) : (UInt8.ofNat (48 + q)).toNat = 48 + q := by simp; omega
theorem of_digit (c : UInt8) (h : 48 ≤ c.toNat) : UInt8.ofNat (48 + (c.toNat - 48)) = c := by
  rw [show 48 + (c.toNat - 48) = c.toNat by omega]
  simp
theorem modeText_len (m : Int) : (modeText m).length ≤ 4 := by unfold modeText; split <;> simp [octL]
theorem parse_oct (m : Nat) (h : m ≤ 4095) : modeParse (octL m) = some m := by
  have d0 := oct_digit (m / 512) (by omega)
  have d1 := oct_digit (m / 64 % 8) (by omega)
  have d2 := oct_digit (m / 8 % 8) (by omega)
  have d3 := oct_digit (m % 8) (by omega)
  unfold modeParse
  rw [if_pos (by simp [octL])]
  simp only [octL, parse8, d0, d1, d2, d3]
  rw [if_pos (by omega), if_pos (by omega), if_pos (by omega), if_pos (by omega)]
  congr 1
  omega
theorem oct_parse {l : List UInt8} {m : Nat} (h : modeParse l = some m) : m ≤ 4095 ∧ octL m = l := by
  unfold modeParse at h
  split at h
  · rename_i hl
    match l, hl with
    | [a, b, c, d], _ =>
      simp only [parse8] at h
      split at h
      · rename_i ha
        split at h
        · rename_i hb
          split at h
          · rename_i hc
            split at h
            · rename_i hd
              injection h with h
              refine ⟨by omega, ?_⟩
              unfold octL
              have e0 : m / 512 = a.toNat - 48 := by omega
              have e1 : m / 64 % 8 = b.toNat - 48 := by omega
              have e2 : m / 8 % 8 = c.toNat - 48 := by omega
              have e3 : m % 8 = d.toNat - 48 := by omega
              rw [e0, e1, e2, e3, of_digit a ha.1, of_digit b hb.1, of_digit c hc.1, of_digit d hd.1]
            · cases h
          · cases h
        · cases h
      · cases h
  · cases h
theorem parse_le {l : List UInt8} {m : Nat} (h : modeParse l = some m) : m ≤ 4095 := (oct_parse h).1
theorem text_parse {l : List UInt8} {m : Nat} (h : modeParse l = some m) : modeText m = l := by
  obtain ⟨h1, h2⟩ := oct_parse h
  unfold modeText
  rw [if_pos (by omega)]
  exact h2
theorem parse_text {m : Int} (h0 : 0 ≤ m) (h1 : m ≤ 4095) : modeParse (modeText m) = some m.toNat := by
  unfold modeText
  rw [if_pos ⟨h0, h1⟩]
  exact parse_oct _ (by omega)

/-! Bits of 64-bit numbers. -/
theorem wrap_back (x : BitVec 64) : IntKind.i64.wrap (x.toNat : Int) = x.toInt := by
  have h := x.isLt
  have e : ((x.toNat : Int) % 2 ^ 64) = x.toNat := by omega
  rw [BitVec.toInt_eq_toNat_cond]
  simp only [IntKind.wrap, IntKind.bits, IntKind.signed, e]
  by_cases h2 : 2 * x.toNat < 2 ^ 64
  · rw [if_pos h2, if_neg (by simp; omega)]
  · rw [if_neg h2, if_pos (by simp; omega)]
    simp
theorem and64 (a b : Int) : bits .and .i64 a b = (BitVec.ofInt 64 a &&& BitVec.ofInt 64 b).toInt := wrap_back _
theorem or64 (a b : Int) : bits .or .i64 a b = (BitVec.ofInt 64 a ||| BitVec.ofInt 64 b).toInt := wrap_back _
theorem andNot64 (a b : Int) : bits .andNot .i64 a b = (BitVec.ofInt 64 a &&& ~~~BitVec.ofInt 64 b).toInt := wrap_back _
theorem ofInt_nat {a : Int} (h0 : 0 ≤ a) (h1 : a ≤ 9223372036854775807) : (BitVec.ofInt 64 a).toNat = a.toNat := by
  obtain ⟨n, rfl⟩ := Int.eq_ofNat_of_zero_le h0
  rw [BitVec.ofInt_natCast, BitVec.toNat_ofNat, Int.toNat_natCast]
  exact Nat.mod_eq_of_lt (by omega)
theorem toInt_small {x : BitVec 64} (h : x.toNat < 9223372036854775808) : x.toInt = (x.toNat : Int) := by
  rw [BitVec.toInt_eq_toNat_cond]
  split
  · rfl
  · omega
theorem ofInt_toInt (x : BitVec 64) : BitVec.ofInt 64 x.toInt = x := by simp
theorem toInt_zero {x : BitVec 64} : x.toInt = 0 ↔ x = 0#64 := by
  constructor
  · intro h
    rw [← ofInt_toInt x, h]
    rfl
  · intro h
    rw [h]
    rfl

theorem ofInt_lit7 (d : Int) (h0 : 0 ≤ d) (h1 : d ≤ 7) : (BitVec.ofInt 64 d).toNat = d.toNat := ofInt_nat h0 (by omega)
theorem andNot_nat (a d : Nat) (ha : a < 9223372036854775808) (hd : d < 9223372036854775808) : bits .andNot .i64 (a : Int) (d : Int) = ((a &&& (18446744073709551615 - d) : Nat) : Int) := by
  rw [andNot64]
  have e : (BitVec.ofInt 64 (a : Int) &&& ~~~BitVec.ofInt 64 (d : Int)).toNat = a &&& (18446744073709551615 - d) := by
    rw [BitVec.toNat_and, BitVec.toNat_not, ofInt_nat (by omega) (by omega), ofInt_nat (by omega) (by omega)]
    simp
  have h := Nat.and_le_left (n := a) (m := 18446744073709551615 - d)
  rw [toInt_small (by rw [e]; omega), e]
theorem or_nat (a d : Nat) (ha : a < 9223372036854775808) (hd : d < 9223372036854775808) : bits .or .i64 (a : Int) (d : Int) = ((a ||| d : Nat) : Int) := by
  rw [or64]
  have e : (BitVec.ofInt 64 (a : Int) ||| BitVec.ofInt 64 (d : Int)).toNat = a ||| d := by
    rw [BitVec.toNat_or, ofInt_nat (by omega) (by omega), ofInt_nat (by omega) (by omega)]
    simp
  have h : a ||| d < 2 ^ 63 := Nat.or_lt_two_pow (by omega) (by omega)
  rw [toInt_small (by rw [e]; omega), e]
/-- The lowest bits, of any number. -/
theorem mask_any (a : Int) (i : Nat) (hi : i < 63) : bits .and .i64 a ((2 ^ i - 1 : Nat) : Int) = a % (2 ^ i : Nat) := by
  have hp : 0 < 2 ^ i := Nat.two_pow_pos i
  have h63 : 2 ^ i ≤ 2 ^ 62 := Nat.pow_le_pow_right (by omega) (by omega)
  rw [and64]
  have e : (BitVec.ofInt 64 a &&& BitVec.ofInt 64 ((2 ^ i - 1 : Nat) : Int)).toNat = (BitVec.ofInt 64 a).toNat % 2 ^ i := by
    rw [BitVec.toNat_and, ofInt_nat (a := ((2 ^ i - 1 : Nat) : Int)) (by omega) (by omega), Int.toNat_natCast, Nat.and_two_pow_sub_one_eq_mod]
  have hlt : (BitVec.ofInt 64 a).toNat % 2 ^ i < 2 ^ i := Nat.mod_lt _ hp
  rw [toInt_small (by rw [e]; omega), e]
  have e2 : (BitVec.ofInt 64 a).toNat = (a % (2 ^ 64 : Nat)).toNat := by simp [BitVec.toNat_ofInt]
  rw [e2]
  have h0 : 0 ≤ a % (2 ^ 64 : Nat) := Int.emod_nonneg _ (by decide)
  rw [Int.natCast_emod, Int.toNat_of_nonneg h0]
  exact Int.emod_emod_of_dvd _ (by exact_mod_cast Nat.pow_dvd_pow 2 (by omega))

/-! Who may. -/
/-- The bits that count for somebody. -/
def gr (m o g who group : Int) : Int := if who = 0 then 7 else if who = o then m / 64 % 8 else if group = g then m / 8 % 8 else m % 8
theorem gr_bd {m o g who group : Int} : 0 ≤ gr m o g who group ∧ gr m o g who group ≤ 7 := by
  unfold gr
  split
  · omega
  · split
    · omega
    · split <;> omega
/-- Has a digit all bits of another one? -/
def hasB (d w : Int) : Bool := !(decide (w / 4 % 2 = 1) && decide (d / 4 % 2 = 0)) && !(decide (w / 2 % 2 = 1) && decide (d / 2 % 2 = 0)) && !(decide (w / 1 % 2 = 1) && decide (d / 1 % 2 = 0))
theorem not_small : ∀ d : Nat, d < 8 → ∀ x : Nat, x < 8 → (bits .andNot .i64 (x : Int) (d : Int) = 0 ↔ hasB d x = true) := by decide +kernel
theorem not_big {x d : Int} (h0 : 0 ≤ d) (h1 : d ≤ 7) (hx0 : -9223372036854775808 ≤ x) (hx1 : x ≤ 9223372036854775807) (h : bits .andNot .i64 x d = 0) : 0 ≤ x ∧ x ≤ 7 := by
  rw [andNot64, toInt_zero] at h
  have e : BitVec.ofInt 64 x = BitVec.ofInt 64 x &&& BitVec.ofInt 64 d := by
    ext i hi
    have := congrArg (fun v => v.getLsbD i) h
    simp only [BitVec.getLsbD_and, BitVec.getLsbD_not, BitVec.getLsbD_zero, hi, decide_true, Bool.true_and] at this
    rw [BitVec.getElem_and]
    simp only [← BitVec.getLsbD_eq_getElem]
    cases ha : (BitVec.ofInt 64 x).getLsbD i <;> cases hb : (BitVec.ofInt 64 d).getLsbD i <;> simp_all
  have hle : (BitVec.ofInt 64 x).toNat ≤ 7 := by
    rw [e, BitVec.toNat_and, ofInt_nat h0 (by omega)]
    exact Nat.le_trans Nat.and_le_right (by omega)
  have e2 : (BitVec.ofInt 64 x).toNat = (x % (2 ^ 64 : Nat)).toNat := by simp [BitVec.toNat_ofInt]
  rw [e2] at hle
  have h3 : (x % ((2 ^ 64 : Nat) : Int)) = x % 18446744073709551616 := rfl
  rw [h3] at hle
  omega
theorem not_iff {x d : Int} (h0 : 0 ≤ d) (h1 : d ≤ 7) (hx0 : -9223372036854775808 ≤ x) (hx1 : x ≤ 9223372036854775807) : bits .andNot .i64 x d = 0 ↔ (0 ≤ x ∧ x ≤ 7) ∧ hasB d x = true := by
  constructor
  · intro h
    have hb := not_big h0 h1 hx0 hx1 h
    refine ⟨hb, ?_⟩
    obtain ⟨d, rfl⟩ := Int.eq_ofNat_of_zero_le h0
    obtain ⟨x, rfl⟩ := Int.eq_ofNat_of_zero_le hb.1
    exact (not_small d (by omega) x (by omega)).1 h
  · rintro ⟨hb, h⟩
    obtain ⟨d, rfl⟩ := Int.eq_ofNat_of_zero_le h0
    obtain ⟨x, rfl⟩ := Int.eq_ofNat_of_zero_le hb.1
    exact (not_small d (by omega) x (by omega)).2 h
theorem has_seven : ∀ x : Nat, x < 8 → hasB 7 x = true := by decide
theorem has_zero : ∀ d : Nat, d < 8 → hasB d 0 = true := by decide

def whoB (n : Int) : Bool := decide (0 ≤ n) && decide (n ≤ 65535)
def canB (k m o g who group : Int) (ws : List Int) : Bool :=
  decide (chk k m o g = 0) && whoB who && whoB group && ws.all fun x => decide (bits .andNot .i64 x (gr m o g who group) = 0)
def refCanB (k m o g who group w : Int) : Bool :=
  decide (chk k m o g = 0) && whoB who && whoB group && decide (0 ≤ w ∧ w ≤ 7) && (decide (who = 0) || hasB (gr m o g who group) w)
theorem ref_can {k m o g who group : Int} {x : Int} (hx0 : -9223372036854775808 ≤ x) (hx1 : x ≤ 9223372036854775807) :
    (decide (0 ≤ x ∧ x ≤ 7) && (decide (who = 0) || hasB (gr m o g who group) x)) = decide (bits .andNot .i64 x (gr m o g who group) = 0) := by
  have hb := @gr_bd m o g who group
  have hi := not_iff (x := x) hb.1 hb.2 hx0 hx1
  rw [Bool.eq_iff_iff]
  simp only [Bool.and_eq_true, Bool.or_eq_true, decide_eq_true_eq]
  rw [hi]
  constructor
  · rintro ⟨h1, h2 | h2⟩
    · refine ⟨h1, ?_⟩
      rw [show gr m o g who group = 7 by unfold gr; rw [if_pos h2]]
      obtain ⟨x, rfl⟩ := Int.eq_ofNat_of_zero_le h1.1
      exact has_seven x (by omega)
    · exact ⟨h1, h2⟩
  · rintro ⟨h1, h2⟩
    exact ⟨h1, .inr h2⟩
theorem all_mem {α : Type} {p q : α → Bool} : ∀ {l : List α}, (∀ x ∈ l, p x = q x) → l.all p = l.all q
  | [], _ => rfl
  | x :: l, h => by
    rw [List.all_cons, List.all_cons, h x List.mem_cons_self, all_mem fun y hy => h y (List.mem_cons_of_mem _ hy)]
theorem can_ref {k m o g who group : Int} {ws : List Int} (hw : ∀ x ∈ ws, -9223372036854775808 ≤ x ∧ x ≤ 9223372036854775807) :
    canB k m o g who group ws = (refCanB k m o g who group 0 && ws.all fun x => refCanB k m o g who group x) := by
  have e0 : refCanB k m o g who group 0 = (decide (chk k m o g = 0) && whoB who && whoB group) := by
    have hb := @gr_bd m o g who group
    unfold refCanB
    have : hasB (gr m o g who group) 0 = true := by
      obtain ⟨d, hd⟩ := Int.eq_ofNat_of_zero_le hb.1
      rw [hd]
      exact has_zero d (by omega)
    rw [this]
    simp
  rw [e0]
  unfold canB
  cases hc : (decide (chk k m o g = 0) && whoB who && whoB group) with
  | false => simp
  | true =>
    rw [Bool.true_and, Bool.true_and]
    refine all_mem fun x hx => ?_
    have := ref_can (k := k) (m := m) (o := o) (g := g) (who := who) (group := group) (hw x hx).1 (hw x hx).2
    unfold refCanB
    rw [hc, Bool.true_and, this]
theorem mode_not_or : ∀ d : Nat, d < 8 → ∀ a : Nat, a < 8 → ∀ b : Nat, b < 8 → (decide (bits .andNot .i64 (bits .or .i64 (a : Int) (b : Int)) (d : Int) = 0) = (decide (bits .andNot .i64 (a : Int) (d : Int) = 0) && decide (bits .andNot .i64 (b : Int) (d : Int) = 0))) := by decide +kernel
theorem seven_all : ∀ a : Nat, a < 8 → bits .andNot .i64 (a : Int) 7 = 0 := by decide +kernel

/-! What is refused, and what is cut. -/
def cutL (m : Int) (ds : List Int) : Int := if 0 ≤ m ∧ m ≤ 4095 then ds.foldl (fun a d => bits .andNot .i64 a d) m else 0
/-- Neither setuid nor setgid; of a file or directory, neither the group nor all others may write. -/
def setB (m : Int) : Bool := decide (m / 512 % 8 > 1)
def wrB (m : Int) : Bool := hasB (m / 8 % 8) 2 || hasB (m / 1 % 8) 2
def refuse (k m o g : Int) : Int := if chk k m o g ≠ 0 then chk k m o g else if 2 < k then 17 else if setB m || (decide (k < 2) && wrB m) then 11 else 0
theorem cut_two : ∀ a : Nat, a < 64 → ∀ b : Nat, b < 64 → (((64 * a + b) &&& (18446744073709551615 - 2048)) &&& (18446744073709551615 - 1024) = 64 * a + b ↔ ¬ ((64 * a + b) / 512 % 8 > 1)) := by decide +kernel
theorem cut_four : ∀ a : Nat, a < 64 → ∀ b : Nat, b < 64 → (((((64 * a + b) &&& (18446744073709551615 - 16)) &&& (18446744073709551615 - 2)) &&& (18446744073709551615 - 2048)) &&& (18446744073709551615 - 1024) = 64 * a + b ↔ ¬ ((64 * a + b) / 512 % 8 > 1) ∧ ¬ ((64 * a + b) / 8 % 8 / 2 % 2 = 1) ∧ ¬ ((64 * a + b) % 8 / 2 % 2 = 1)) := by decide +kernel

theorem cut_step {m : Nat} {d : Nat} (hm : m ≤ 4095) (hd : d < 9223372036854775808) : bits .andNot .i64 (m : Int) (d : Int) = ((m &&& (18446744073709551615 - d) : Nat) : Int) := andNot_nat m d (by omega) hd
theorem cut_le {m d : Nat} (hm : m ≤ 4095) : m &&& d ≤ 4095 := Nat.le_trans Nat.and_le_left hm
theorem split64 {m : Nat} (h : m ≤ 4095) : ∃ a b, a < 64 ∧ b < 64 ∧ m = 64 * a + b := ⟨m / 64, m % 64, by omega, by omega, by omega⟩
/-- Without setuid and setgid. -/
theorem cut_two_int {m : Int} (h0 : 0 ≤ m) (h1 : m ≤ 4095) : cutL m [2048, 1024] = m ↔ setB m = false := by
  obtain ⟨n, rfl⟩ := Int.eq_ofNat_of_zero_le h0
  obtain ⟨a, b, ha, hb, rfl⟩ := split64 (m := n) (by omega)
  have h := cut_two a ha b hb
  unfold cutL
  rw [if_pos ⟨h0, h1⟩]
  simp only [List.foldl]
  rw [show (2048 : Int) = ((2048 : Nat) : Int) from rfl, show (1024 : Int) = ((1024 : Nat) : Int) from rfl]
  rw [cut_step (by omega) (by omega), cut_step (cut_le (by omega)) (by omega)]
  rw [Int.ofNat_inj, h]
  unfold setB
  rw [decide_eq_false_iff_not]
  have e : (((64 * a + b : Nat) : Int) / 512 % 8) = ((64 * a + b) / 512 % 8 : Nat) := by omega
  rw [e]
  omega
theorem wr_nat (n : Nat) : wrB (n : Int) = false ↔ ¬ (n / 8 % 8 / 2 % 2 = 1) ∧ ¬ (n % 8 / 2 % 2 = 1) := by
  have e1 : ∀ d : Nat, hasB (d : Int) 2 = !decide (d / 2 % 2 = 0) := by
    intro d
    unfold hasB
    have : ((d : Int) / 2 % 2 = 0) ↔ d / 2 % 2 = 0 := by omega
    simp [this]
  unfold wrB
  rw [show ((n : Int) / 8 % 8) = ((n / 8 % 8 : Nat) : Int) by omega, show ((n : Int) / 1 % 8) = ((n % 8 : Nat) : Int) by omega, e1, e1]
  simp
theorem cut_four_int {m : Int} (h0 : 0 ≤ m) (h1 : m ≤ 4095) : cutL (cutL m [16, 2]) [2048, 1024] = m ↔ setB m = false ∧ wrB m = false := by
  obtain ⟨n, rfl⟩ := Int.eq_ofNat_of_zero_le h0
  obtain ⟨a, b, ha, hb, rfl⟩ := split64 (m := n) (by omega)
  have h := cut_four a ha b hb
  have e1 : cutL ((64 * a + b : Nat) : Int) [16, 2] = (((64 * a + b) &&& (18446744073709551615 - 16)) &&& (18446744073709551615 - 2) : Nat) := by
    unfold cutL
    rw [if_pos ⟨h0, h1⟩]
    simp only [List.foldl]
    rw [show (16 : Int) = ((16 : Nat) : Int) from rfl, show (2 : Int) = ((2 : Nat) : Int) from rfl]
    rw [cut_step (by omega) (by omega), cut_step (cut_le (by omega)) (by omega)]
  rw [e1]
  have h2 : ((64 * a + b) &&& (18446744073709551615 - 16)) &&& (18446744073709551615 - 2) ≤ 4095 := cut_le (cut_le (by omega))
  generalize hc : ((64 * a + b) &&& (18446744073709551615 - 16)) &&& (18446744073709551615 - 2) = c at h h2 ⊢
  have e2 : cutL ((c : Nat) : Int) [2048, 1024] = ((c &&& (18446744073709551615 - 2048)) &&& (18446744073709551615 - 1024) : Nat) := by
    unfold cutL
    rw [if_pos ⟨by omega, by omega⟩]
    simp only [List.foldl]
    rw [show (2048 : Int) = ((2048 : Nat) : Int) from rfl, show (1024 : Int) = ((1024 : Nat) : Int) from rfl]
    rw [cut_step h2 (by omega), cut_step (cut_le h2) (by omega)]
  rw [e2, Int.ofNat_inj, h, wr_nat]
  unfold setB
  rw [decide_eq_false_iff_not]
  have e : (((64 * a + b : Nat) : Int) / 512 % 8) = ((64 * a + b) / 512 % 8 : Nat) := by omega
  rw [e]
  omega
theorem cutL_bd (m : Int) (ds : List Int) : 0 ≤ cutL m ds ∧ cutL m ds ≤ 4095 := by
  unfold cutL
  split
  · rename_i h
    have : ∀ (ds : List Int) (m : Int), 0 ≤ m ∧ m ≤ 4095 → 0 ≤ ds.foldl (fun a d => bits .andNot .i64 a d) m ∧ ds.foldl (fun a d => bits .andNot .i64 a d) m ≤ 4095 := by
      intro ds
      induction ds with
      | nil => exact fun _ h => h
      | cons d ds ih =>
        intro m hm
        refine ih _ ?_
        show 0 ≤ bits .andNot .i64 m d ∧ bits .andNot .i64 m d ≤ 4095
        rw [andNot64]
        have hle : (BitVec.ofInt 64 m &&& ~~~BitVec.ofInt 64 d).toNat ≤ m.toNat := by
          rw [BitVec.toNat_and, ofInt_nat hm.1 (by omega)]
          exact Nat.and_le_left
        rw [toInt_small (by omega)]
        omega
    exact this ds m h
  · omega
/-- One bit of a number. -/
theorem bit_of (a : Int) (k : Nat) (hk : k < 63) : bits .and .i64 a ((2 ^ k : Nat) : Int) = 0 ↔ (BitVec.ofInt 64 a).getLsbD k = false := by
  have hp : 2 ^ k ≤ 4611686018427387904 := Nat.pow_le_pow_right (i := k) (j := 62) (by omega : 0 < 2) (by omega)
  have e : BitVec.ofInt 64 ((2 ^ k : Nat) : Int) = BitVec.twoPow 64 k := by
    apply BitVec.eq_of_toNat_eq
    have hc : ((2 ^ k : Nat) : Int) ≤ 9223372036854775807 := by
      have : ((2 ^ k : Nat) : Int) ≤ ((4611686018427387904 : Nat) : Int) := Int.ofNat_le.2 hp
      omega
    rw [ofInt_nat (a := ((2 ^ k : Nat) : Int)) (Int.natCast_nonneg _) hc, BitVec.toNat_twoPow, Int.toNat_natCast, Nat.mod_eq_of_lt (by omega)]
  rw [and64, toInt_zero, e, BitVec.and_twoPow]
  cases h : (BitVec.ofInt 64 a).getLsbD k with
  | false => simp
  | true =>
    simp only [if_true, Bool.true_eq_false, iff_false]
    intro h0
    have := congrArg BitVec.toNat h0
    rw [BitVec.toNat_twoPow, Nat.mod_eq_of_lt (by omega)] at this
    have := Nat.two_pow_pos k
    simp at *
theorem fold_bit (k : Nat) (hk : k < 64) : ∀ (ds : List Int) (m : Int), (BitVec.ofInt 64 (ds.foldl (fun a d => bits .andNot .i64 a d) m)).getLsbD k = ((BitVec.ofInt 64 m).getLsbD k && !(ds.any fun d => (BitVec.ofInt 64 d).getLsbD k))
  | [], m => by simp
  | d :: ds, m => by
    rw [List.foldl_cons, fold_bit k hk ds, List.any_cons, andNot64, ofInt_toInt, BitVec.getLsbD_and, BitVec.getLsbD_not]
    cases (BitVec.ofInt 64 m).getLsbD k <;> cases (BitVec.ofInt 64 d).getLsbD k <;> simp [hk]
/-- What the law asks of one bit. -/
def bitB (a : Int) (k : Nat) : Bool := !decide (bits .and .i64 a ((2 ^ k : Nat) : Int) = 0)
theorem bitB_eq (a : Int) (k : Nat) (hk : k < 63) : bitB a k = (BitVec.ofInt 64 a).getLsbD k := by
  unfold bitB
  have := bit_of a k hk
  cases h : (BitVec.ofInt 64 a).getLsbD k <;> simp_all
theorem cut_bit {m : Int} (h0 : 0 ≤ m) (h1 : m ≤ 4095) (ds : List Int) (k : Nat) (hk : k < 63) : bitB (cutL m ds) k = (bitB m k && !(ds.any fun d => bitB d k)) := by
  unfold cutL
  rw [if_pos ⟨h0, h1⟩, bitB_eq _ k hk, bitB_eq _ k hk, fold_bit k (by omega)]
  congr 2
  induction ds with
  | nil => rfl
  | cons d ds ih => rw [List.any_cons, List.any_cons, ih, bitB_eq _ k hk]

/-! Stats as numbers. -/
theorem num_or {a b : Int} (i : Nat) (ha : 0 ≤ a) (h : a * 2 ^ i + b < 9223372036854775808) (hb0 : 0 ≤ b) (hb1 : b < 2 ^ i) : bits .or .i64 (a * 2 ^ i) b = a * 2 ^ i + b := by
  obtain ⟨n, rfl⟩ := Int.eq_ofNat_of_zero_le ha
  obtain ⟨c, rfl⟩ := Int.eq_ofNat_of_zero_le hb0
  have e : ((n : Int) * 2 ^ i) = ((n * 2 ^ i : Nat) : Int) := by simp
  rw [e] at h ⊢
  have hc : c < 2 ^ i := by exact_mod_cast hb1
  rw [or_nat _ _ (by omega) (by omega), nat_join i _ _ (by simp) hc]
  omega
def numS (k m o g : Int) : Int := k * 17592186044416 + m * 4294967296 + o * 65536 + g
theorem num_eq {k m o g : Int} (h : chk k m o g = 0) : bits .or .i64 (bits .or .i64 (bits .or .i64 (k * 17592186044416) (m * 4294967296)) (o * 65536)) g = numS k m o g := by
  obtain ⟨⟨k0, k1⟩, ⟨m0, m1⟩, ⟨o0, o1⟩, g0, g1⟩ := chk_zero h
  have e1 := num_or (a := k) (b := m * 4294967296) 44 (by omega) (by omega) (by omega) (by omega)
  have e2 := num_or (a := k * 4096 + m) (b := o * 65536) 32 (by omega) (by omega) (by omega) (by omega)
  have e3 := num_or (a := (k * 4096 + m) * 65536 + o) (b := g) 16 (by omega) (by omega) (by omega) (by omega)
  rw [show k * 17592186044416 = k * 2 ^ 44 by omega, e1, show k * 2 ^ 44 + m * 4294967296 = (k * 4096 + m) * 2 ^ 32 by omega, e2, show (k * 4096 + m) * 2 ^ 32 + o * 65536 = ((k * 4096 + m) * 65536 + o) * 2 ^ 16 by omega, e3]
  unfold numS
  omega
/-- The parts of a number. -/
def kOf (n : Int) : Int := n / 17592186044416
def mOf (n : Int) : Int := n / 4294967296 % 4096
def oOf (n : Int) : Int := n / 65536 % 65536
def gOf (n : Int) : Int := n % 65536
theorem num_of_parts (n : Int) : numS (kOf n) (mOf n) (oOf n) (gOf n) = n := by unfold numS kOf mOf oOf gOf; omega
theorem parts_of_num {k m o g : Int} (h : chk k m o g = 0) : kOf (numS k m o g) = k ∧ mOf (numS k m o g) = m ∧ oOf (numS k m o g) = o ∧ gOf (numS k m o g) = g := by
  obtain ⟨⟨k0, k1⟩, ⟨m0, m1⟩, ⟨o0, o1⟩, g0, g1⟩ := chk_zero h
  unfold numS kOf mOf oOf gOf
  omega
theorem mask12 (a : Int) : bits .and .i64 a 4095 = a % 4096 := mask_any a 12 (by omega)
theorem mask16 (a : Int) : bits .and .i64 a 65535 = a % 65536 := mask_any a 16 (by omega)
theorem mask3 (a : Int) : bits .and .i64 a 7 = a % 8 := mask_any a 3 (by omega)

/-! More bits. -/
theorem more_le (m e : Nat) (hm : m ≤ 4095) (he : e < 512) : m ||| e ≤ 4095 := by
  have : m ||| e < 2 ^ 12 := Nat.or_lt_two_pow (by omega) (by omega)
  omega
theorem more_at (m e i : Nat) : (m ||| e) / 2 ^ i % 8 = (m / 2 ^ i % 8) ||| (e / 2 ^ i % 8) := by
  rw [← Nat.shiftRight_eq_div_pow, ← Nat.shiftRight_eq_div_pow, ← Nat.shiftRight_eq_div_pow, Nat.shiftRight_or_distrib]
  rw [← nat_mask3, ← nat_mask3, ← nat_mask3, Nat.and_or_distrib_right]
theorem more_can : ∀ d : Nat, d < 8 → ∀ e : Nat, e < 8 → ∀ a : Nat, a < 8 → bits .andNot .i64 (a : Int) (d : Int) = 0 → bits .andNot .i64 (a : Int) ((d ||| e : Nat) : Int) = 0 := by decide +kernel
theorem gr_more {m e o g who group : Int} {a : Int} (hm0 : 0 ≤ m) (hm1 : m ≤ 4095) (he0 : 0 ≤ e) (he1 : e < 512) (ha0 : 0 ≤ a) (ha1 : a ≤ 7)
    (h : bits .andNot .i64 a (gr m o g who group) = 0) : bits .andNot .i64 a (gr (bits .or .i64 m e) o g who group) = 0 := by
  obtain ⟨n, rfl⟩ := Int.eq_ofNat_of_zero_le hm0
  obtain ⟨c, rfl⟩ := Int.eq_ofNat_of_zero_le he0
  obtain ⟨x, rfl⟩ := Int.eq_ofNat_of_zero_le ha0
  rw [or_nat _ _ (by omega) (by omega)]
  have key : ∀ i : Nat, bits .andNot .i64 (x : Int) ((n / 2 ^ i % 8 : Nat) : Int) = 0 → bits .andNot .i64 (x : Int) (((n ||| c) / 2 ^ i % 8 : Nat) : Int) = 0 := by
    intro i hi
    rw [more_at]
    exact more_can _ (by omega) _ (by omega) x (by omega) hi
  unfold gr at h ⊢
  split
  · rename_i hw
    rw [if_pos hw] at h
    exact h
  · rename_i hw
    rw [if_neg hw] at h
    split
    · rename_i h2
      rw [if_pos h2] at h
      exact key 6 h
    · rename_i h2
      rw [if_neg h2] at h
      split
      · rename_i h3
        rw [if_pos h3] at h
        exact key 3 h
      · rename_i h3
        rw [if_neg h3] at h
        have := key 0
        simp only [Nat.pow_zero, Nat.div_one] at this
        exact this h
end Go.Proofs.YtkmkblhmjeeaeaaGreatDoor
end

/-
  The memory words of mode's laws: stats as values, lists of numbers that lie in memory. Plain theorems on worlds; no condition.
-/

section
set_option linter.unusedSimpArgs false
set_option linter.unusedVariables false
set_option maxRecDepth 100000
namespace Go.Proofs.YtkmkblhmjeeaeaaGreatDoor
open Go.RowKit

theorem mnew (w : World) (o : Obj) : Below w.heap.size w (w.alloc o) := (Below.refl _ _).alloc (Nat.le_refl _) _
theorem mdrewN (w : World) (n : Nat) : Below w.heap.size w (w.drewN n) := ⟨rfl, rfl, rfl, Nat.le_refl _, fun _ _ => rfl⟩
theorem mdrew (w : World) : Below w.heap.size w w.drew := ⟨rfl, rfl, rfl, Nat.le_refl _, fun _ _ => rfl⟩
theorem mthen {w a b : World} (h : Below w.heap.size w a) (k : Below a.heap.size a b) : Below w.heap.size w b := h.trans (k.mono h.size)
theorem ret_num {k : IntKind} {a b : Int} (h : a = b) : Ending.returned (.int k a) = .returned (.int k b) := by rw [h]
theorem ret_bool {a b : Bool} (h : a = b) : Ending.returned (.bool a) = .returned (.bool b) := by rw [h]

theorem mcell {a b : World} {p : Addr} {v : Value} (h : a.cell? p = some v) (hb : Below a.heap.size a b) : b.cell? p = some v := (hb.cell (World.block_lt_of_cell? a p h)).trans h

/-- A stat as a value. -/
abbrev stv (k m o g : Int) : Value := .agg #[.int .i64 k, .int .i64 m, .int .i64 o, .int .i64 g]
def sts (k m o g : Int) : List Value := [.int .i64 k, .int .i64 m, .int .i64 o, .int .i64 g]

/-- A slice of numbers that reads as a list. -/
structure MIn (w : World) (A : Option Addr) (n c : Nat) (ps : List Int) : Prop where
  len : ps.length = n
  cap : n ≤ c
  big : n ≤ 9223372036854775807
  bound : ∀ x ∈ ps, -9223372036854775808 ≤ x ∧ x ≤ 9223372036854775807
  cells : 0 < n → ∃ g o, A = some ⟨g, o, none⟩ ∧ g < w.heap.size ∧ ∀ (j : Nat) (x : Int), ps[j]? = some x → w.cell? ⟨g, o + j, none⟩ = some (.int .i64 x)
theorem MIn.below {w w' : World} {A : Option Addr} {n c : Nat} {ps : List Int} (h : MIn w A n c ps) (hb : Below w.heap.size w w') : MIn w' A n c ps := by
  refine ⟨h.len, h.cap, h.big, h.bound, fun hn => ?_⟩
  obtain ⟨g, o, hA, hg, hc⟩ := h.cells hn
  exact ⟨g, o, hA, Nat.lt_of_lt_of_le hg hb.size, fun j x hx => (hb.cell (p := ⟨g, o + j, none⟩) hg).trans (hc j x hx)⟩
theorem MIn.take {w : World} {A : Option Addr} {n c : Nat} {ps : List Int} (h : MIn w A n c ps) (m : Nat) (hm : m ≤ n) : MIn w A m c (ps.take m) := by
  refine ⟨by rw [List.length_take]; have := h.len; omega, by have := h.cap; omega, by have := h.big; omega, fun x hx => h.bound x (List.mem_of_mem_take hx), fun hn => ?_⟩
  obtain ⟨g, o, hA, hg, hc⟩ := h.cells (by omega)
  refine ⟨g, o, hA, hg, fun j x hx => ?_⟩
  rw [List.getElem?_take] at hx
  split at hx
  · exact hc j x hx
  · cases hx
/-- A list that has just been laid. -/
theorem MIn.blk {w : World} {g : Nat} {t : TypeId} {ps : List Int} (h : Blk w g t (ps.map (Value.int .i64))) (hb : ∀ x ∈ ps, -9223372036854775808 ≤ x ∧ x ≤ 9223372036854775807) (hl : ps.length ≤ 9223372036854775807) : MIn w (some ⟨g, 0, none⟩) ps.length ps.length ps := by
  refine ⟨rfl, Nat.le_refl _, hl, hb, fun _ => ⟨g, 0, rfl, h.lt, fun j x hx => ?_⟩⟩
  rw [Nat.zero_add, h.cell j, List.getElem?_map, hx]
  rfl
theorem MIn.one (w : World) (t : TypeId) (a : Int) (h0 : -9223372036854775808 ≤ a) (h1 : a ≤ 9223372036854775807) : MIn (w.alloc (.cells #[.int .i64 a] t)) (some ⟨w.heap.size, 0, none⟩) 1 1 [a] :=
  MIn.blk (ps := [a]) (Blk.new w t [.int .i64 a]) (fun x hx => by simp only [List.mem_singleton] at hx; subst hx; exact ⟨h0, h1⟩) (by simp)
theorem MIn.two (w : World) (t : TypeId) (a b : Int) (h0 : -9223372036854775808 ≤ a) (h1 : a ≤ 9223372036854775807) (h2 : -9223372036854775808 ≤ b) (h3 : b ≤ 9223372036854775807) : MIn (w.alloc (.cells #[.int .i64 a, .int .i64 b] t)) (some ⟨w.heap.size, 0, none⟩) 2 2 [a, b] :=
  MIn.blk (ps := [a, b]) (Blk.new w t [.int .i64 a, .int .i64 b]) (fun x hx => by simp only [List.mem_cons, List.not_mem_nil, or_false] at hx; rcases hx with rfl | rfl <;> omega) (by simp)
theorem MIn.two1 (w : World) (X : Obj) (t : TypeId) (a b : Int) (h0 : -9223372036854775808 ≤ a) (h1 : a ≤ 9223372036854775807) (h2 : -9223372036854775808 ≤ b) (h3 : b ≤ 9223372036854775807) : MIn ((w.alloc X).alloc (.cells #[.int .i64 a, .int .i64 b] t)) (some ⟨w.heap.size + 1, 0, none⟩) 2 2 [a, b] := by
  have := MIn.two (w.alloc X) t a b h0 h1 h2 h3
  rwa [World.size_alloc] at this
theorem MIn.two2 (w : World) (X Y : Obj) (t : TypeId) (a b : Int) (h0 : -9223372036854775808 ≤ a) (h1 : a ≤ 9223372036854775807) (h2 : -9223372036854775808 ≤ b) (h3 : b ≤ 9223372036854775807) : MIn (((w.alloc X).alloc Y).alloc (.cells #[.int .i64 a, .int .i64 b] t)) (some ⟨w.heap.size + 1 + 1, 0, none⟩) 2 2 [a, b] := by
  have := MIn.two ((w.alloc X).alloc Y) t a b h0 h1 h2 h3
  rwa [World.size_alloc, World.size_alloc] at this
/-- A stat's box. -/
def Box (w : World) (b : Nat) (t : TypeId) (k m o g : Int) : Prop := Blk w b t [.int .i64 k, .int .i64 m, .int .i64 o, .int .i64 g]
theorem Box.cells {w : World} {b : Nat} {t : TypeId} {k m o g : Int} (h : Box w b t k m o g) :
    w.cell? ⟨b, 0, none⟩ = some (.int .i64 k) ∧ w.cell? ⟨b, 1, none⟩ = some (.int .i64 m) ∧ w.cell? ⟨b, 2, none⟩ = some (.int .i64 o) ∧ w.cell? ⟨b, 3, none⟩ = some (.int .i64 g) :=
  ⟨Blk.cell h 0, Blk.cell h 1, Blk.cell h 2, Blk.cell h 3⟩
theorem Box.free {w : World} {b : Nat} {t : TypeId} {k m o g : Int} (h : Box w b t k m o g) :
    w.frozen? ⟨b, 0, none⟩ = false ∧ w.frozen? ⟨b, 1, none⟩ = false ∧ w.frozen? ⟨b, 2, none⟩ = false ∧ w.frozen? ⟨b, 3, none⟩ = false :=
  ⟨Blk.frozen h 0, Blk.frozen h 1, Blk.frozen h 2, Blk.frozen h 3⟩
theorem Box.below {w w' : World} {b : Nat} {t : TypeId} {k m o g : Int} (h : Box w b t k m o g) (hb : Below w.heap.size w w') : Box w' b t k m o g := Blk.below h hb (Blk.lt h)
theorem Box.new (w : World) (t : TypeId) (k m o g : Int) : Box (w.alloc (.cells #[.int .i64 k, .int .i64 m, .int .i64 o, .int .i64 g] t)) w.heap.size t k m o g := Blk.new w t _
end Go.Proofs.YtkmkblhmjeeaeaaGreatDoor
end
