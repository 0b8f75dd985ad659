/-
  A stream as plain data: what it was told; texts in memory; copy into a block that is known. Plain definitions and theorems; no condition.
-/
import Derived.Test.YtkblpcegdfhmoaaDoorDEnding
import Derived.Laws.CopyOwn
namespace Go.Proofs.YtkblpcegdfhmoaaDoor
open Go.RowKit

def chunk (m : List B8) (i : Nat) : List B8 := (m.drop (64 * i)).take 64
/-- The words behind the first i blocks. -/
def foldN (ks : List B32) (m : List B8) : Nat → S8
  | 0 => start8
  | i + 1 => turn8 ks (foldN ks m i) (chunk m i)
theorem chunk_append {m x : List B8} {i : Nat} (h : 64 * (i + 1) ≤ m.length) : chunk (m ++ x) i = chunk m i := by
  unfold chunk
  rw [List.drop_append_of_le_length (by omega), List.take_append_of_le_length (by rw [List.length_drop]; omega)]
theorem foldN_append (ks : List B32) {m x : List B8} : ∀ {i : Nat}, 64 * i ≤ m.length → foldN ks (m ++ x) i = foldN ks m i
  | 0, _ => rfl
  | i + 1, h => by rw [foldN, foldN, foldN_append ks (i := i) (by omega), chunk_append h]
theorem chunk_length {m : List B8} {i : Nat} (h : 64 * (i + 1) ≤ m.length) : (chunk m i).length = 64 := by
  unfold chunk
  rw [List.length_take, List.length_drop]
  omega

/-- The cells of a stream. -/
def strCells (ws : List B32) (rs : List B8) (n : Nat) : List Value := Wd ws ++ (Vb rs ++ [.int .i64 n])
theorem strCells_length {ws : List B32} {rs : List B8} {n : Nat} (h1 : ws.length = 8) (h2 : rs.length = 64) : (strCells ws rs n).length = 73 := by
  simp [strCells, Wd_length, Vb_length, h1, h2]
theorem strCells_oneCell (ws : List B32) (rs : List B8) (n : Nat) : ∀ u ∈ strCells ws rs n, u.oneCell' = true := by
  intro u hu
  rcases List.mem_append.1 hu with h | h
  · exact Wd_oneCell _ u h
  · rcases List.mem_append.1 h with h | h
    · exact Vb_oneCell _ u h
    · simp at h; subst h; rfl

/-- The stream at p was told just the bytes m. -/
def IsStr (ks : List B32) (w : World) (p : Nat) (m : List B8) : Prop := ∃ ws rs, Blk w p 44 (strCells ws rs m.length) ∧ ws.length = 8 ∧ rs.length = 64 ∧
  (0 < m.length → ws = (foldN ks m (m.length / 64)).list) ∧ rs.take (m.length % 64) = m.drop (64 * (m.length / 64))

theorem zeroCells_str : zeroCells = strCells (List.replicate 8 0#32) (List.replicate 64 0#8) 0 := by
  unfold zeroCells strCells Wd Vb nw nb
  rfl
theorem zero_str (ks : List B32) {w : World} {p : Nat} (h : Blk w p 44 zeroCells) : IsStr ks w p [] :=
  ⟨List.replicate 8 0#32, List.replicate 64 0#8, by rw [zeroCells_str] at h; exact h, rfl, rfl, fun h => by simp at h, rfl⟩
theorem IsStr.only {ks : List B32} {w w' : World} {p : Nat} {m : List B8} {S : List Nat} (h : IsStr ks w p m) (ho : Only S w w') (hp : p ∉ S) : IsStr ks w' p m := by
  obtain ⟨ws, rs, hb, h1, h2, h3, h4⟩ := h
  exact ⟨ws, rs, hb.only ho hp, h1, h2, h3, h4⟩
theorem IsStr.lt {ks : List B32} {w : World} {p : Nat} {m : List B8} (h : IsStr ks w p m) : p < w.heap.size := by
  obtain ⟨ws, rs, hb, _⟩ := h
  exact hb.lt
theorem IsStr.below {ks : List B32} {w w' : World} {p : Nat} {m : List B8} {B : Nat} (h : IsStr ks w p m) (ho : Below B w w') (hp : p < B) : IsStr ks w' p m := by
  obtain ⟨ws, rs, hb, h1, h2, h3, h4⟩ := h
  exact ⟨ws, rs, hb.below ho hp, h1, h2, h3, h4⟩

/-- A text: so many bytes in memory, outside block p. -/
structure Txt (w : World) (p : Nat) (A : Option Addr) (n c : Nat) (bs : List B8) : Prop where
  len : bs.length = n
  cap : n ≤ c
  capm : c ≤ maxLen
  cells : 0 < n → ∃ g o, A = some ⟨g, o, none⟩ ∧ g ≠ p ∧ ∀ j, j < n → w.cell? ⟨g, o + j, none⟩ = some (.int .u8 (nb (bs.getD j 0)))
theorem Txt.only {w w' : World} {p : Nat} {A : Option Addr} {n c : Nat} {bs : List B8} (h : Txt w p A n c bs) (ho : Only [p] w w') : Txt w' p A n c bs := by
  refine ⟨h.len, h.cap, h.capm, fun hn => ?_⟩
  obtain ⟨g, o, hA, hg, hc⟩ := h.cells hn
  refine ⟨g, o, hA, hg, fun j hj => ?_⟩
  have h0 := hc j hj
  rw [← h0]
  unfold World.cell?
  rw [show (⟨g, o + j, none⟩ : Addr).block = g from rfl, ho.block g (World.block_lt_of_cell? w _ h0) (by simp [hg])]
theorem Txt.below {w w' : World} {p B : Nat} {A : Option Addr} {n c : Nat} {bs : List B8} (h : Txt w p A n c bs) (ho : Below B w w') (hB : w.heap.size ≤ B) : Txt w' p A n c bs := by
  refine ⟨h.len, h.cap, h.capm, fun hn => ?_⟩
  obtain ⟨g, o, hA, hg, hc⟩ := h.cells hn
  refine ⟨g, o, hA, hg, fun j hj => (ho.cell ?_).trans (hc j hj)⟩
  have := World.block_lt_of_cell? w _ (hc j hj)
  show g < B
  have h2 : g < w.heap.size := this
  omega
/-- The text behind its first k bytes. -/
theorem Txt.drop {w : World} {p g o n c k : Nat} {bs : List B8} (h : Txt w p (some ⟨g, o, none⟩) n c bs) (hk : k ≤ n) (A : Option Addr) (hA : k < n → A = some ⟨g, o + k, none⟩) : Txt w p A (n - k) (c - k) (bs.drop k) := by
  refine ⟨by rw [List.length_drop, h.len], by have := h.cap; omega, by have := h.capm; omega, fun hn => ?_⟩
  obtain ⟨g', o', hA', hg, hc⟩ := h.cells (by omega)
  simp only [Option.some.injEq, Addr.mk.injEq, and_true] at hA'
  obtain ⟨rfl, rfl⟩ := hA'
  refine ⟨g, o + k, hA (by omega), hg, fun j hj => ?_⟩
  rw [Nat.add_assoc, hc (k + j) (by omega)]
  simp [List.getD_eq_getElem?_getD]

theorem over_str {ws : List B32} {rs bs : List B8} {n r : Nat} (hw : ws.length = 8) (hr : r + bs.length ≤ rs.length) : over (strCells ws rs n) (8 + r) (Vb bs) = strCells ws (rs.take r ++ (bs ++ rs.drop (r + bs.length))) n := by
  have hW : (Wd ws).length = 8 := by rw [Wd_length, hw]
  have hV : (Vb rs).length = rs.length := Vb_length rs
  unfold over strCells
  have e1 : (Wd ws ++ (Vb rs ++ [Value.int .i64 n])).take (8 + r) = Wd ws ++ Vb (rs.take r) := by
    rw [List.take_append, hW, Nat.add_sub_cancel_left, List.take_of_length_le (by omega), List.take_append_of_le_length (by omega), Vb_take]
  have e2 : (Wd ws ++ (Vb rs ++ [Value.int .i64 n])).drop (8 + r + (Vb bs).length) = Vb (rs.drop (r + bs.length)) ++ [Value.int .i64 n] := by
    rw [List.drop_append, hW, List.drop_eq_nil_of_le (by omega), List.nil_append, Vb_length, show 8 + r + bs.length - 8 = r + bs.length by omega, List.drop_append_of_le_length (by omega), Vb_drop]
  rw [e1, e2]
  simp [Vb_append]
theorem set_str {ws : List B32} {rs : List B8} {n k : Nat} (hw : ws.length = 8) (hr : rs.length = 64) : (strCells ws rs n).set 72 (.int .i64 (k : Nat)) = strCells ws rs k := by
  unfold strCells
  rw [List.set_append_right _ _ (by rw [Wd_length]; omega), List.set_append_right _ _ (by rw [Wd_length, Vb_length]; omega), Wd_length, Vb_length, hw, hr]
  rfl

/-- Where a telling stands: k bytes of the text were turned. -/
def TRel (ks : List B32) (w0 : World) (p : Nat) (m bs : List B8) (n c : Nat) (v : Value) (wx : World) : Prop := ∃ (k : Nat) (A' : Option Addr) (rs' : List B8), k ≤ n ∧ v = .slice A' (n - k) (c - k) ∧ Txt wx p A' (n - k) (c - k) (bs.drop k) ∧ (m.length + k) % 64 = 0 ∧ rs'.length = 64 ∧
  Blk wx p 44 (strCells (foldN ks (m ++ bs) ((m.length + k) / 64)).list rs' (m.length + n)) ∧ Only [p] w0 wx
def sliceLen : Value → Nat
  | .slice _ n _ => n
  | _ => 0

/-- The text fits into the block that was begun. -/
theorem str_small {ks : List B32} {w : World} {p n : Nat} {m bs rs : List B8} (hn : bs.length = n) (hr : rs.length = 64) (hrs : rs.take (m.length % 64) = m.drop (64 * (m.length / 64))) (hf : m.length % 64 + n < 64)
    (hb : Blk w p 44 (strCells (foldN ks m (m.length / 64)).list (rs.take (m.length % 64) ++ (bs ++ rs.drop (m.length % 64 + bs.length))) (m.length + n))) : IsStr ks w p (m ++ bs) := by
  have hl : (m ++ bs).length = m.length + n := by simp [hn]
  have hd : (m.length + n) / 64 = m.length / 64 := by omega
  have hm : (m.length + n) % 64 = m.length % 64 + n := by omega
  refine ⟨_, _, by rw [hl]; exact hb, rfl, by simp [hr]; omega, fun _ => ?_, ?_⟩
  · rw [hl, hd, foldN_append ks (by omega)]
  · rw [hl, hd, hm, ← List.append_assoc, List.take_append_of_le_length (by simp [hr]; omega), List.take_of_length_le (by simp [hr]; omega), hrs, List.drop_append_of_le_length (by omega)]

/-- The block that was begun is full. -/
theorem chunk_fill {m bs rs : List B8} {r q : Nat} (hq : q = m.length / 64) (hr : r = m.length % 64) (hrs : rs.take (m.length % 64) = m.drop (64 * (m.length / 64))) (hl : rs.length = 64) (hn : 64 - r ≤ bs.length) :
    rs.take r ++ (bs.take (64 - r) ++ rs.drop (r + (bs.take (64 - r)).length)) = chunk (m ++ bs) q := by
  subst hq hr
  have e1 : (bs.take (64 - m.length % 64)).length = 64 - m.length % 64 := by rw [List.length_take]; omega
  rw [e1, List.drop_eq_nil_of_le (by omega), List.append_nil, hrs]
  unfold chunk
  have hX : (m.drop (64 * (m.length / 64))).length = m.length % 64 := by rw [List.length_drop]; omega
  rw [List.drop_append_of_le_length (by omega), List.take_append, hX]
  congr 1
  exact (List.take_of_length_le (by omega)).symm
theorem rest_cell {w : World} {p n : Nat} {ws : List B32} {rs : List B8} (hb : Blk w p 44 (strCells ws rs n)) (hw : ws.length = 8) (hr : rs.length = 64) : ∀ j, j < 64 → w.cell? ⟨p, 8 + j, none⟩ = some (.int .u8 (nb (rs.getD j 0))) := by
  intro j hj
  rw [hb.cell]; unfold strCells
  rw [List.getElem?_append_right (by rw [Wd_length]; omega), Wd_length, hw, Nat.add_sub_cancel_left, List.getElem?_append_left (by rw [Vb_length]; omega), Vb_get, List.getD_eq_getElem?_getD, List.getElem?_eq_getElem (by omega)]
  rfl

/-- What is left of the text lies in the rest. -/
theorem str_last {ks : List B32} {w : World} {p n k : Nat} {m bs rs : List B8} (hn : bs.length = n) (hr : rs.length = 64) (hk : k ≤ n) (hz : (m.length + k) % 64 = 0) (hf : n - k < 64)
    (hb : Blk w p 44 (strCells (foldN ks (m ++ bs) ((m.length + k) / 64)).list (rs.take 0 ++ (bs.drop k ++ rs.drop (0 + (bs.drop k).length))) (m.length + n))) : IsStr ks w p (m ++ bs) := by
  have hl : (m ++ bs).length = m.length + n := by simp [hn]
  have hd : (m.length + n) / 64 = (m.length + k) / 64 := by omega
  have hm : (m.length + n) % 64 = n - k := by omega
  have h64 : 64 * ((m.length + k) / 64) = m.length + k := by omega
  refine ⟨_, _, by rw [hl]; exact hb, rfl, by simp [hr]; omega, fun _ => ?_, ?_⟩
  · rw [hl, hd]
  · rw [hl, hd, hm, h64, List.take_zero, List.nil_append, List.take_append_of_le_length (by simp [hn]), List.take_of_length_le (by simp [hn]), List.drop_append]
    simp

theorem tell_mid {ks : List B32} {w0 w : World} {p g o n c r : Nat} {m bs : List B8} (hn : 64 - r ≤ n) (h0 : 0 < r) (hr : r = m.length % 64) (ht : Txt w0 p (some ⟨g, o, none⟩) n c bs) (hO : Only [p] w0 w)
    (hb : Blk w p 44 (Wd (turn8 ks (foldN ks m (m.length / 64)) (chunk (m ++ bs) (m.length / 64))).list ++ (Vb (chunk (m ++ bs) (m.length / 64)) ++ [.int .i64 (m.length + n : Nat)])))
    (A' : Option Addr) (hA : 64 - r < n → A' = some ⟨g, o + (64 - r), none⟩) (c' : Nat) (hc : c' = c - (64 - r)) : TRel ks w0 p m bs n c (.slice A' (n - (64 - r)) c') w := by
  subst hc
  have hlen := ht.len
  have hq : (m.length + (64 - r)) / 64 = m.length / 64 + 1 := by omega
  refine ⟨64 - r, A', chunk (m ++ bs) (m.length / 64), hn, rfl, (ht.drop hn A' hA).only hO, by omega, chunk_length (by rw [List.length_append, hlen]; omega), ?_, hO⟩
  rw [hq, foldN, foldN_append ks (by omega)]
  exact hb
theorem tell_next {ks : List B32} {w0 w1 w : World} {p g o n c k : Nat} {m bs rs' : List B8} (hk : k ≤ n) (hz : (m.length + k) % 64 = 0) (h64 : 64 ≤ n - k) (hr' : rs'.length = 64) (ht : Txt w1 p (some ⟨g, o, none⟩) (n - k) (c - k) (bs.drop k)) (h1 : Only [p] w0 w1) (hO : Only [p] w1 w)
    (hb : Blk w p 44 (Wd (turn8 ks (foldN ks (m ++ bs) ((m.length + k) / 64)) ((bs.drop k).take 64)).list ++ (Vb rs' ++ [.int .i64 (m.length + n : Nat)])))
    (A' : Option Addr) (hA : 64 < n - k → A' = some ⟨g, o + 64, none⟩) (c' n' : Nat) (hc : c' = c - k - 64) (hn : n' = n - k - 64) : TRel ks w0 p m bs n c (.slice A' n' c') w := by
  subst hc hn
  have hq : (m.length + (k + 64)) / 64 = (m.length + k) / 64 + 1 := by omega
  have h64q : 64 * ((m.length + k) / 64) = m.length + k := by omega
  refine ⟨k + 64, A', rs', by omega, by rw [Nat.sub_sub, Nat.sub_sub], ?_, by omega, hr', ?_, h1.trans hO⟩
  · have := (ht.drop h64 A' hA).only hO
    rw [List.drop_drop, Nat.sub_sub, Nat.sub_sub] at this
    exact this
  · have hc : chunk (m ++ bs) ((m.length + k) / 64) = (bs.drop k).take 64 := by
      unfold chunk
      rw [h64q, List.drop_append, List.drop_eq_nil_of_le (by omega), List.nil_append, Nat.add_sub_cancel_left]
    rw [hq, foldN, hc]
    exact hb

/-- copy of a text into a block that is known. -/
theorem wpList_copy_blk {P : Program} {w : World} {ops : Array Oper} {rest : List Oper} {o : Oper} {a : Act} {Q : Exit → Act → World → Prop} (hgd : o.guard = none) (d s : Operand) (dT sT : TypeId)
    (ho : o.op = .call { callee := .builtin .copy, args := #[d, s], argTypes := #[dT, sT] }) (elem : TypeId) (hu : P.underlying dT = some (.slice elem)) (hsz : (P.info? elem).map (·.size) = some 1)
    (g off dLen dCap : Nat) (hd : a.eval d = .slice (some ⟨g, off, none⟩) dLen dCap) {A : Option Addr} {n c : Nat} {bs : List B8} (hs : a.eval s = .slice A n c)
    {t : TypeId} {cs : List Value} (hb : Blk w g t cs) (ht : Txt w g A n c bs) (hfit : off + dLen ≤ cs.length)
    (h : ∀ w', Blk w' g t (over cs off (Vb (bs.take dLen))) → Only [g] w w' → wpList P ops Q rest (a.put o.dst (goInt (bs.take dLen).length)) w') :
    wpList P ops Q (o :: rest) a w := by
  have hlen := ht.len
  by_cases h0 : Nat.min n dLen = 0
  · have he : bs.take dLen = [] := List.eq_nil_of_length_eq_zero (by rw [List.length_take, hlen]; rw [Nat.min_comm]; exact h0)
    refine wpList_copy_nothing hgd d s dT sT ho elem hu hsz _ _ dLen dCap n c hd hs h0 ?_
    have := h w (by rw [he]; simpa [over, Vb] using hb) (Only.refl _ _)
    rw [he] at this
    exact this
  · obtain ⟨g', o', rfl, hg, hc⟩ := ht.cells (by
      rcases Nat.eq_zero_or_pos n with h | h
      · subst h; exact absurd (Nat.zero_min dLen) h0
      · exact h)
    have hl : (Vb (bs.take dLen)).length = Nat.min n dLen := by rw [Vb_length, List.length_take, hlen, Nat.min_comm]
    have hmin : Nat.min n dLen ≤ dLen := Nat.min_le_right _ _
    refine wpList_copy_own hgd d s dT sT ho elem hu hsz g off dLen dCap ⟨g', o', none⟩ n c hd hs cs.toArray t hb (Vb (bs.take dLen)) hl ?_ (by simp; omega) (Vb_oneCell _) ?_
    · intro j v hv
      rw [Vb_get, List.getElem?_take] at hv
      split at hv
      · rw [Addr.add_mid]
        cases hx : bs[j]? with
        | none => rw [hx] at hv; cases hv
        | some x =>
          rw [hx] at hv
          simp only [Option.map_some, Option.some.injEq] at hv
          subst hv
          have hj : j < n := by have := (List.getElem?_eq_some_iff.1 hx).1; omega
          rw [hc j hj, List.getD_eq_getElem?_getD, hx]
          rfl
      · cases hv
    · have hB : Blk (w.setRow g ((cs.toArray).toList.take off ++ (Vb (bs.take dLen) ++ (cs.toArray).toList.drop (off + (Vb (bs.take dLen)).length))).toArray) g t (over cs off (Vb (bs.take dLen))) := by
        have := setRow_heap w g cs.toArray (cs.take off ++ (Vb (bs.take dLen) ++ cs.drop (off + (Vb (bs.take dLen)).length))).toArray t _ hb
        unfold Blk over
        simpa using this
      have := h _ hB ((Only.refl _ _).setRow (.inl (by simp)) _)
      rw [Vb_length]
      rw [Vb_length] at this
      exact this

end Go.Proofs.YtkblpcegdfhmoaaDoor
