/-
  Text: walked. Conditions: the tokens lie in memory; sizes.
-/
import Derived.Test.YtammomjnigalbaaLToks
import Derived.Lib.AppendStr
import Derived.Lib.UnsafeStr
import Derived.Laws.BytesArg
set_option linter.unusedSimpArgs false
set_option linter.unusedVariables false
set_option maxRecDepth 100000
namespace Go.Proofs.Ytammomjnigalbaa
open Go.RowKit

theorem lby_info : (Try.prog.info? 5).map (fun i => (i.zero, i.size, i.bytes)) = some (some (.int .u8 0), 1, 1) := by kernel_rfl
theorem byteCells_one (l : By) : ∀ u ∈ Lib.byteCells l, u.oneCell' = true := by
  intro u hu
  unfold Lib.byteCells at hu
  obtain ⟨c, _, rfl⟩ := List.mem_map.1 hu
  rfl
/-- A text of bytes of the call's own. -/
theorem conv_rowt {w : World} {N : Nat} {v : Value} {bs : By} (h : w.ownsRow N 5 1 v bs.length (Lib.byteCells bs)) : (convert 49 9 v).run Try.prog w = .ok (.string (baL bs)) w := by
  rcases h.2 with ⟨rfl, h0⟩ | ⟨g, cap, cur, rfl, hg, hb, h1, h2, h3, h4⟩
  · have he : bs = [] := List.eq_nil_of_length_eq_zero h0
    subst he
    exact run_convert_bytes_nil w _ _ Try.underlying49 Try.underlying5 0 0 _ Try.underlying9
  · have hk : Blk w g 5 cur.toList := by simpa [Blk] using hb
    have hr := run_convert_bytes_arg (P := Try.prog) w 49 5 Try.underlying49 Try.underlying5 g 0 bs.length cap (bs.map fun c => (c.toNat : Int)) (by simp) (fun i hi => by
      rw [hk.cell, Nat.zero_add]
      have h5 : (Lib.byteCells bs)[i]? = some (.int .u8 ((bs.map fun c => (c.toNat : Int)).getD i 0)) := by
        unfold Lib.byteCells
        rw [List.getElem?_map, List.getD_eq_getElem?_getD, List.getElem?_map, List.getElem?_eq_getElem hi]
        rfl
      rw [← h4, List.getElem?_take] at h5
      split at h5
      · exact h5
      · cases h5) 9 Try.underlying9
    rw [hr]
    have : strOfNums (bs.map fun c => (c.toNat : Int)) = baL bs := by
      unfold strOfNums baL
      rw [List.map_map]
      congr 2
      exact (List.map_congr_left (fun c _ => by simp)).trans (List.map_id bs)
    rw [this]
/-- Where writing stands: the bytes in a row of the call's own, the token in its box. -/
structure XAt (w0 w : World) (g : Nat) (x : Tk) (u : Value) (bs : By) : Prop where
  own : w.ownsRow w0.heap.size 5 1 u bs.length (Lib.byteCells bs)
  box : Blk w g 37 (tkC x)
  b : Below w0.heap.size w0 w
theorem XAt.below {w0 w w' : World} {g : Nat} {x : Tk} {u : Value} {bs : By} (h : XAt w0 w g x u bs) (hb : Below w.heap.size w w') : XAt w0 w' g x u bs :=
  ⟨ownsRow_only (S := []) h.own (Only.of_below hb) (by simp), h.box.below hb h.box.lt, h.b.trans (hb.mono h.b.size)⟩
theorem XAt.put {w0 w w' : World} {g : Nat} {x : Tk} {u u' : Value} {bs cs : By} (h : XAt w0 w g x u bs) (ho : w'.ownsRow w0.heap.size 5 1 u' cs.length (Lib.byteCells cs)) (hO : Only u.ownBlock.toList w w') : XAt w0 w' g x u' cs :=
  ⟨ho, h.box.only hO (by
    have := own_blk_ne h.own h.box (by decide)
    simpa using this), h.b.trans (hO.below h.b.size (fun k hk => (h.own.lt k (by simpa using hk)).1))⟩
theorem XAt.text {w0 w : World} {g : Nat} {x : Tk} {u : Value} {bs : By} (h : XAt w0 w g x u bs) : w.cell? ⟨g, 1, none⟩ = some (.string (baL x.text)) := (h.box.cell 1).trans rfl
section
variable {ops : Array Oper} {Q : Exit → Act → World → Prop} {rest : List Oper} {o : Oper} {a : Act}
theorem xat_app {w0 w : World} {g p m : Nat} {x : Tk} {u : Value} {bs : By} {c : UInt8} {z : Int} {s y : Operand} (h : XAt w0 w g x u bs) (hgd : o.guard = none) (ho : o.op = .call { callee := .builtin .append, args := #[s, y], argTypes := #[49, 49] }) (hs : a.eval s = u) (hx : a.eval y = .slice (some ⟨p, 0, none⟩) 1 m) (hk : Blk w p 5 [.int .u8 z]) (hz : z = (c.toNat : Int)) (hmx : bs.length + 1 ≤ 1000000)
    (k : ∀ v' w', XAt w0 w' g x v' (bs ++ [c]) → wpList Try.prog ops Q rest (a.put o.dst v') w') : wpList Try.prog ops Q (o :: rest) a w := by
  subst hz
  refine wpList_app (v := u) (base := w0.heap.size) (n := bs.length) (m := 1) (A := some ⟨p, 0, none⟩) hgd ho Try.underlying49 lby_info rfl (by decide) (Lib.byteCells [c]) hs h.own hx rfl (fun _ => ⟨p, 0, rfl, fun j u hu => by rw [Nat.zero_add, hk.cell]; exact hu⟩) (byteCells_one _) hmx (by decide) h.b.size ?_
  intro v' w' k1 k2 _
  refine k v' w' (h.put ?_ k2)
  rw [List.length_append, Lib.byteCells_append]
  exact k1
theorem xat_str {w0 w : World} {g : Nat} {x : Tk} {u : Value} {bs : By} {l : By} {s y : Operand} (h : XAt w0 w g x u bs) (hgd : o.guard = none) (ho : o.op = .call { callee := .builtin .append, args := #[s, y], argTypes := #[49, 9] }) (hs : a.eval s = u) (hx : a.eval y = .string (baL l)) (hmx : bs.length + l.length ≤ 1000000)
    (k : ∀ v' w', XAt w0 w' g x v' (bs ++ l) → wpList Try.prog ops Q rest (a.put o.dst v') w') : wpList Try.prog ops Q (o :: rest) a w := by
  obtain ⟨i, hi, hz, hsz, hby⟩ := info_parts lby_info
  have hsl := ba_size l
  refine Lib.wpList_append_own_string (P := Try.prog) w hgd s y 49 9 ho w0.heap.size 5 i Try.underlying49 Try.underlying9 hi hz hsz hby u bs.length (Lib.byteCells bs) hs h.own (baL l) hx (by unfold maxLen; omega) (by omega) h.b.size ?_
  intro v' w' k1 k2 _
  refine k v' w' (h.put ?_ ?_)
  · rw [List.length_append, Lib.byteCells_append]
    rw [hsl] at k1
    exact k1
  · exact (Only.refl _ w).grown k2 (fun k hk => .inl (by simp [hk]))
end
/-- Text, one token more. -/
def txS (p : By × Bool) (T : By) : By × Bool := (p.1 ++ ((if p.2 then [32] else []) ++ (T ++ if T = [59] then [10] else [])), !decide (T = [59]))
theorem txS_fold : ∀ (l : List By) (p : By × Bool), (l.foldl txS p).1 = p.1 ++ textL p.2 l := by
  intro l
  induction l with
  | nil => intro p; simp [textL]
  | cons T r ih =>
    intro p
    rw [List.foldl_cons, ih]
    unfold txS
    dsimp only
    by_cases h : T = [59]
    · rw [if_pos h, decide_eq_true h]
      simp [textL, h, List.append_assoc]
    · rw [if_neg h, decide_eq_false h]
      simp [textL, h, List.append_assoc]
theorem txS_len (p : By × Bool) (T : By) : (txS p T).1.length ≤ p.1.length + T.length + 2 := by
  unfold txS
  dsimp only
  simp only [List.length_append]
  split <;> split <;> simp <;> omega
def textAt (ts : List Tk) (i : Nat) : By × Bool := ((ts.take i).map (·.text)).foldl txS ([], false)
theorem textAt_next {ts : List Tk} {i : Nat} {x : Tk} (h : ts[i]? = some x) : textAt ts (i + 1) = txS (textAt ts i) x.text := by
  unfold textAt
  rw [List.take_add_one, h, Option.toList_some, List.map_append, List.foldl_append]
  rfl
theorem textAt_all {ts : List Tk} {n : Nat} (h : ts.length = n) : (textAt ts n).1 = textL false (ts.map (·.text)) := by
  unfold textAt
  rw [← h, List.take_length, txS_fold]
  rfl
theorem txS_tt {B T : By} (h : T = [59]) : txS (B, true) T = (B ++ [32] ++ T ++ [10], false) := by unfold txS; simp [h]
theorem txS_tf {B T : By} (h : ¬ T = [59]) : txS (B, true) T = (B ++ [32] ++ T, true) := by unfold txS; simp [h]
theorem txS_ft {B T : By} (h : T = [59]) : txS (B, false) T = (B ++ T ++ [10], false) := by unfold txS; simp [h]
theorem txS_ff {B T : By} (h : ¬ T = [59]) : txS (B, false) T = (B ++ T, true) := by unfold txS; simp [h]
theorem TIn.rng {w : World} {A : Option Addr} {n c : Nat} {ts : List Tk} (h : TIn w A n c ts) {i : Nat} (hi : i < n) : ∃ g o x, A = some ⟨g, o, Option.none⟩ ∧ g < w.heap.size ∧ ts[i]? = some x ∧ w.rangeAt g (o + i * 3) (tkC x) := by
  obtain ⟨g, o, hA, hg, hc⟩ := h.cells (by omega)
  have hx := List.getElem?_eq_getElem (l := ts) (i := i) (by rw [h.len]; exact hi)
  exact ⟨g, o, _, hA, hg, hx, fun j u hu => hc i _ hx j u hu⟩
theorem semi_yes {T : By} (h : T = [59]) : (baL T).toList = [59] ∧ ((baL T).toList == [59]) = true := by
  have : (baL T).toList = [59] := by rw [toList_bs, bs_ba, h]
  exact ⟨this, by rw [this]; rfl⟩
theorem semi_no {T : By} (h : ¬ T = [59]) : ¬ (baL T).toList = [59] ∧ ((baL T).toList == [59]) = false := by
  have : ¬ (baL T).toList = [59] := by rw [toList_bs, bs_ba]; exact h
  exact ⟨this, by simpa using this⟩
end Go.Proofs.Ytammomjnigalbaa
