/-
  Reading as plain values: what Decode takes is just what is written. Plain definitions and theorems; no condition.
-/
import Derived.Test.YtdnaiiagblcohaaGreatDoorM6
import Derived.Test.YtdnaiiagblcohaaGreatDoorM23
import Derived.Test.YtdnaiiagblcohaaGreatDoorM7
import Derived.Test.YtdnaiiagblcohaaGreatDoorM17
section
set_option linter.unusedSimpArgs false
set_option linter.unusedVariables false
set_option maxRecDepth 100000
namespace Go.Proofs.YtdnaiiagblcohaaGreatDoor
open Go.RowKit

/-- Reading: what is left, and whether more was asked for. -/
structure Rs where
  left : List B8
  ms : Bool
def takeR (k : Nat) (s : Rs) : List B8 × Rs := if s.left.length < k then ([], ⟨s.left, true⟩) else (s.left.take k, ⟨s.left.drop k, s.ms⟩)
def numR (k : Nat) (s : Rs) : Nat × Rs := (fromB (takeR k s).1, (takeR k s).2)
/-- Where reading stands, part by part. -/
def rs1 (s : Rs) : Rs := (numR 1 s).2
def rs2 (s : Rs) : Rs := (numR 2 (rs1 s)).2
def rs3 (s : Rs) : Rs := (numR 1 (rs2 s)).2
def len1 (s : Rs) : Nat := (numR 1 (rs2 s)).1
def rs4 (s : Rs) : Rs := (takeR (len1 s) (rs3 s)).2
def rs5 (s : Rs) : Rs := (numR 2 (rs4 s)).2
def len2 (s : Rs) : Nat := (numR 2 (rs4 s)).1
def rs6 (s : Rs) : Rs := (takeR (len2 s) (rs5 s)).2
def rs7 (s : Rs) : Rs := (takeR 8 (rs6 s)).2
def candE (s : Rs) : En := { path := (parseB (txtB (takeR (len1 s) (rs3 s)).1)).1, kind := ((numR 1 s).1 : Nat), mode := ((numR 2 (rs1 s)).1 : Nat), data := (takeR (len2 s) (rs5 s)).1 }
def candS (s : Rs) : List B8 := (takeR 8 (rs6 s)).1
def bentE (s : Rs) : Bool := !(decide (candS s = sumE (candE s)))
/-- One entry: where reading stands behind it, those that were read, why not. -/
structure Rd where
  st : Rs
  l : List En
  err : Int
def entR (s : Rs) (l : List En) : Rd := if (rs7 s).ms then ⟨rs7 s, l, 4⟩ else if refE (candE s) l (bentE s) = 0 then ⟨rs7 s, l ++ [candE s], 0⟩ else ⟨rs7 s, l, refE (candE s) l (bentE s)⟩
def entsR : Nat → Rs → List En → Rd
  | 0, s, l => ⟨s, l, 0⟩
  | n + 1, s, l => if (entR s l).err = 0 then entsR n (entR s l).st (entR s l).l else entR s l
def arcR (s : Rs) : List En × Int :=
  if (rs1 s).ms then ([], 4) else if 40 < (numR 1 s).1 then ([], 2) else
    if (entsR (numR 1 s).1 (rs1 s) []).err = 0 then (if 0 < (entsR (numR 1 s).1 (rs1 s) []).st.left.length then ((entsR (numR 1 s).1 (rs1 s) []).l, 3) else ((entsR (numR 1 s).1 (rs1 s) []).l, 0)) else ((entsR (numR 1 s).1 (rs1 s) []).l, (entsR (numR 1 s).1 (rs1 s) []).err)
def crelB : List B8 := [67#8, 82#8, 69#8, 76#8]
/-- What Decode answers: the entries, how many were read, why not. -/
def decB (b : List B8) : List En × Nat × Int :=
  if b.take 4 = crelB then (if (arcR ⟨b.drop 4, false⟩).2 = 0 then ((arcR ⟨b.drop 4, false⟩).1, (arcR ⟨b.drop 4, false⟩).1.length, 0) else ([], (arcR ⟨b.drop 4, false⟩).1.length, (arcR ⟨b.drop 4, false⟩).2)) else ([], 0, 3)
theorem fromB_app (xs : List B8) (x : B8) : fromB (xs ++ [x]) = fromB xs * 256 + x.toNat := fromB_snoc xs x
theorem big_snoc12 (size n : Nat) : big (size + 1) n = big size (n / 256) ++ [BitVec.ofNat 8 n] := by
  unfold big
  rw [List.range_succ, List.map_append]
  congr 1
  · apply List.map_congr_left
    intro j hj
    have hj := List.mem_range.1 hj
    unfold bigAt
    congr 1
    rw [show 8 * (size + 1 - 1 - j) = 8 + 8 * (size - 1 - j) by omega, Nat.pow_add, ← Nat.div_div_eq_div_mul]
  · unfold bigAt
    simp
theorem fromB_big12 : ∀ (size n : Nat), n < 256 ^ size → fromB (big size n) = n
  | 0, n, h => by
    have : n = 0 := by simpa using h
    subst this
    rfl
  | size + 1, n, h => by
    rw [big_snoc12, fromB_snoc, fromB_big12 size (n / 256) (by rw [Nat.pow_succ] at h; omega)]
    simp
    omega
theorem big_fromB : ∀ (size : Nat) (xs : List B8), xs.length = size → big size (fromB xs) = xs
  | 0, xs, h => by
    have : xs = [] := List.eq_nil_of_length_eq_zero h
    subst this
    rfl
  | size + 1, xs, h => by
    obtain ⟨ys, y, rfl⟩ : ∃ ys y, xs = ys ++ [y] := by
      rcases List.eq_nil_or_concat xs with h0 | ⟨ys, y, h0⟩
      · rw [h0] at h; cases h
      · exact ⟨ys, y, by rw [h0, List.concat_eq_append]⟩
    have hl : ys.length = size := by rw [List.length_append] at h; simpa using h
    have hy := y.isLt
    rw [big_snoc12, fromB_snoc, show (fromB ys * 256 + y.toNat) / 256 = fromB ys by omega, big_fromB size ys hl]
    congr 2
    apply BitVec.eq_of_toNat_eq
    rw [BitVec.toNat_ofNat]
    omega
theorem takeR_ok {k : Nat} {s : Rs} (h : (takeR k s).2.ms = false) : s.ms = false ∧ (takeR k s).1.length = k ∧ s.left = (takeR k s).1 ++ (takeR k s).2.left := by
  unfold takeR at h ⊢
  split
  · rename_i h1
    rw [if_pos h1] at h
    cases h
  · rename_i h1
    rw [if_neg h1] at h
    exact ⟨h, by rw [List.length_take]; omega, (List.take_append_drop k s.left).symm⟩
theorem takeR_app {k : Nat} (xs ys : List B8) (h : xs.length = k) : takeR k ⟨xs ++ ys, false⟩ = (xs, ⟨ys, false⟩) := by
  subst h
  unfold takeR
  rw [if_neg (by simp)]
  simp
theorem numR_ok {k : Nat} {s : Rs} (h : (numR k s).2.ms = false) : s.ms = false ∧ s.left = big k (numR k s).1 ++ (numR k s).2.left := by
  obtain ⟨h1, h2, h3⟩ := takeR_ok (k := k) (s := s) h
  refine ⟨h1, ?_⟩
  show s.left = big k (fromB (takeR k s).1) ++ (takeR k s).2.left
  rw [big_fromB k _ h2]
  exact h3
theorem numR_app {k n : Nat} (hn : n < 256 ^ k) (ys : List B8) : numR k ⟨big k n ++ ys, false⟩ = (n, ⟨ys, false⟩) := by
  unfold numR
  rw [takeR_app _ _ (big_length k n)]
  show (fromB (big k n), _) = _
  rw [fromB_big12 k n hn]
theorem bytB_txtB (d : List B8) : bytB (txtB d) = d := by
  unfold bytB txtB strOfNums
  apply List.ext_getElem?
  intro i
  simp only [List.getElem?_map]
  cases h : d[i]? with
  | none => simp [h]
  | some x =>
    simp [h, nb]
theorem txtB_bytB (t : ByteArray) : txtB (bytB t) = t := by
  obtain ⟨⟨l⟩⟩ := t
  unfold bytB txtB strOfNums
  congr 1
  simp only [List.map_map]
  congr 1
  rw [List.map_congr_left (g := id) (by intro x _; simp [nb])]
  simp
theorem refE_false {e : En} {l : List En} {b : Bool} (h : refE e l b = 0) : refE e l false = 0 ∧ b = false := by
  have h9 := ref_all h
  refine ⟨ref_none (fun j hj => ?_), h9 8 (by omega)⟩
  have h2 := h9 j hj
  match j, h2 with
  | 0, h2 => exact h2
  | 1, h2 => exact h2
  | 2, h2 => exact h2
  | 3, h2 => exact h2
  | 4, h2 => exact h2
  | 5, h2 => exact h2
  | 6, h2 => exact h2
  | 7, h2 => exact h2
  | j + 8, _ => rfl
theorem pathless_ok {e : En} {l : List En} {b : Bool} (h : refE e l b = 0) : parseB (textP e.path) = (e.path, 0) ∧ 0 < e.path.length := by
  have h0 := ref_all h 0 (by omega)
  simp only [failE, pathlessE, Bool.or_eq_false_iff, Bool.not_eq_false', decide_eq_true_eq, decide_eq_false_iff_not] at h0
  exact ⟨Prod.ext h0.2 h0.1.1, by have := h0.1.2; have h2 := h0.2; rw [← h2]; omega⟩
theorem parse_named {t : ByteArray} (h : 0 < (parseB t).1.length) : (parseB t).2 = 0 := by
  unfold parseB at h ⊢
  split
  · rename_i h1
    rw [if_pos h1] at h
    exact absurd h (by simp)
  · rename_i h1
    rw [if_neg h1] at h
    split
    · rfl
    · rename_i h2
      rw [if_neg h2] at h
      split
      · rfl
      · rename_i h3
        rw [if_neg h3] at h
        exact absurd h (by simp)
/-- The parts, by what was taken. -/
theorem cand_of {s s1 s2 s3 s4 s5 s6 s7 : Rs} {k m tl dl : Nat} {tx dt sm : List B8} (E1 : numR 1 s = (k, s1)) (E2 : numR 2 s1 = (m, s2)) (E3 : numR 1 s2 = (tl, s3)) (E4 : takeR tl s3 = (tx, s4)) (E5 : numR 2 s4 = (dl, s5)) (E6 : takeR dl s5 = (dt, s6)) (E7 : takeR 8 s6 = (sm, s7)) :
    rs7 s = s7 ∧ candS s = sm ∧ candE s = { path := (parseB (txtB tx)).1, kind := (k : Int), mode := (m : Int), data := dt } := by
  have f1 : rs1 s = s1 := congrArg Prod.snd E1
  have f2 : rs2 s = s2 := by unfold rs2; rw [f1, E2]
  have f3 : rs3 s = s3 := by unfold rs3; rw [f2, E3]
  have g3 : len1 s = tl := by unfold len1; rw [f2, E3]
  have f4 : rs4 s = s4 := by unfold rs4; rw [f3, g3, E4]
  have f5 : rs5 s = s5 := by unfold rs5; rw [f4, E5]
  have g5 : len2 s = dl := by unfold len2; rw [f4, E5]
  have f6 : rs6 s = s6 := by unfold rs6; rw [f5, g5, E6]
  refine ⟨by unfold rs7; rw [f6, E7], by unfold candS; rw [f6, E7], by unfold candE; rw [E1, f1, E2, f3, g3, E4, f5, g5, E6]⟩
theorem numR_is {k z : Nat} {s s' : Rs} (h : numR k s = (z, s')) (hm : s'.ms = false) : s.ms = false ∧ s.left = big k z ++ s'.left := by
  have := numR_ok (k := k) (s := s) (by rw [h]; exact hm)
  rw [h] at this
  exact this
theorem takeR_is {k : Nat} {xs : List B8} {s s' : Rs} (h : takeR k s = (xs, s')) (hm : s'.ms = false) : s.ms = false ∧ xs.length = k ∧ s.left = xs ++ s'.left := by
  have := takeR_ok (k := k) (s := s) (by rw [h]; exact hm)
  rw [h] at this
  exact this
theorem entB_of {e : En} {k m : Nat} {tx : List B8} (hk : e.kind = k) (hm : e.mode = m) (ht : bytB (textP e.path) = tx) : entB e = big 1 k ++ (big 2 m ++ (big 1 tx.length ++ (tx ++ (big 2 e.data.length ++ (e.data ++ sumE e))))) := by
  subst ht
  unfold entB
  rw [hk, hm, Int.toNat_natCast, Int.toNat_natCast, bytB_length]
  simp only [List.append_assoc]
/-- What is read as one entry is what is written of it. -/
theorem entR_ok {s : Rs} {l : List En} (h : (entR s l).err = 0) : (entR s l).l = l ++ [candE s] ∧ refE (candE s) l false = 0 ∧ s.ms = false ∧ (entR s l).st.ms = false ∧ s.left = entB (candE s) ++ (entR s l).st.left := by
  obtain ⟨k, s1, E1⟩ : ∃ k s1, numR 1 s = (k, s1) := ⟨_, _, rfl⟩
  obtain ⟨m, s2, E2⟩ : ∃ k s', numR 2 s1 = (k, s') := ⟨_, _, rfl⟩
  obtain ⟨tl, s3, E3⟩ : ∃ k s', numR 1 s2 = (k, s') := ⟨_, _, rfl⟩
  obtain ⟨tx, s4, E4⟩ : ∃ k s', takeR tl s3 = (k, s') := ⟨_, _, rfl⟩
  obtain ⟨dl, s5, E5⟩ : ∃ k s', numR 2 s4 = (k, s') := ⟨_, _, rfl⟩
  obtain ⟨dt, s6, E6⟩ : ∃ k s', takeR dl s5 = (k, s') := ⟨_, _, rfl⟩
  obtain ⟨sm, s7, E7⟩ : ∃ k s', takeR 8 s6 = (k, s') := ⟨_, _, rfl⟩
  obtain ⟨f7, fS, fE⟩ := cand_of E1 E2 E3 E4 E5 E6 E7
  unfold entR at h ⊢
  rw [f7] at h ⊢
  cases hms : s7.ms with
  | true =>
    rw [hms, if_pos rfl] at h
    cases h
  | false =>
    rw [hms, if_neg (by simp)] at h
    rw [if_neg (by simp)]
    by_cases h2 : refE (candE s) l (bentE s) = 0
    · rw [if_pos h2]
      obtain ⟨hr, hb⟩ := refE_false h2
      have hp := pathless_ok hr
      obtain ⟨a6, l7, e7⟩ := takeR_is E7 hms
      obtain ⟨a5, l6, e6⟩ := takeR_is E6 a6
      obtain ⟨a4, e5⟩ := numR_is E5 a5
      obtain ⟨a3, l4, e4⟩ := takeR_is E4 a4
      obtain ⟨a2, e3⟩ := numR_is E3 a3
      obtain ⟨a1, e2⟩ := numR_is E2 a2
      obtain ⟨a0, e1⟩ := numR_is E1 a1
      refine ⟨rfl, hr, a0, hms, ?_⟩
      have hsum : sumE (candE s) = sm := by
        unfold bentE at hb
        simp only [Bool.not_eq_false', decide_eq_true_eq] at hb
        rw [← hb, fS]
      have ht : bytB (textP (candE s).path) = tx := by
        have h1 : 0 < (parseB (txtB tx)).1.length := by have := hp.2; rw [fE] at this; exact this
        rw [fE]
        show bytB (textP (parseB (txtB tx)).1) = tx
        rw [ptext_parse (parse_named h1), bytB_txtB]
      have hk : (candE s).kind = (k : Int) := by rw [fE]
      have hm : (candE s).mode = (m : Int) := by rw [fE]
      have hd : (candE s).data = dt := by rw [fE]
      show s.left = entB (candE s) ++ s7.left
      rw [entB_of hk hm ht, hd, hsum, l4, l6, e1, e2, e3, e4, e5, e6, e7]
      simp only [List.append_assoc]
    · rw [if_neg h2] at h
      dsimp only at h
      exact absurd h h2
/-- What is written of an entry is read as it. -/
theorem entR_back {e : En} {l : List En} (h : refE e l false = 0) (hw : WrE e) (hsum : (sumE e).length = 8) (rest : List B8) : entR ⟨entB e ++ rest, false⟩ l = ⟨⟨rest, false⟩, l ++ [e], 0⟩ := by
  obtain ⟨hp, hp0⟩ := pathless_ok h
  have ht : (bytB (textP e.path)).length < 256 := by
    rw [bytB_length]
    have : (parseB (textP e.path)).2 = 0 := by rw [hp]
    unfold parseB at this
    split at this
    · cases this
    · omega
  have hk0 := hw.k0
  have hk1 := hw.k1
  have hm0 := hw.m0
  have hm1 := hw.m1
  have hd := hw.data
  obtain ⟨k, hk⟩ : ∃ k : Nat, e.kind = k := ⟨e.kind.toNat, by omega⟩
  obtain ⟨m, hm⟩ : ∃ m : Nat, e.mode = m := ⟨e.mode.toNat, by omega⟩
  obtain ⟨tx, htx⟩ : ∃ tx, bytB (textP e.path) = tx := ⟨_, rfl⟩
  rw [htx] at ht
  obtain ⟨r6, h6⟩ : ∃ r, r = sumE e ++ rest := ⟨_, rfl⟩
  obtain ⟨r5, h5⟩ : ∃ r, r = e.data ++ r6 := ⟨_, rfl⟩
  obtain ⟨r4, h4⟩ : ∃ r, r = big 2 e.data.length ++ r5 := ⟨_, rfl⟩
  obtain ⟨r3, h3⟩ : ∃ r, r = tx ++ r4 := ⟨_, rfl⟩
  obtain ⟨r2, h2⟩ : ∃ r, r = big 1 tx.length ++ r3 := ⟨_, rfl⟩
  obtain ⟨r1, h1⟩ : ∃ r, r = big 2 m ++ r2 := ⟨_, rfl⟩
  have e0 : entB e ++ rest = big 1 k ++ r1 := by
    rw [entB_of hk hm htx, h1, h2, h3, h4, h5, h6]
    simp only [List.append_assoc]
  have E1 : numR 1 ⟨entB e ++ rest, false⟩ = (k, ⟨r1, false⟩) := by rw [e0]; exact numR_app (by omega) r1
  have E2 : numR 2 ⟨r1, false⟩ = (m, ⟨r2, false⟩) := by rw [h1]; exact numR_app (by omega) r2
  have E3 : numR 1 ⟨r2, false⟩ = (tx.length, ⟨r3, false⟩) := by rw [h2]; exact numR_app (by omega) r3
  have E4 : takeR tx.length ⟨r3, false⟩ = (tx, ⟨r4, false⟩) := by rw [h3]; exact takeR_app tx r4 rfl
  have E5 : numR 2 ⟨r4, false⟩ = (e.data.length, ⟨r5, false⟩) := by rw [h4]; exact numR_app (by omega) r5
  have E6 : takeR e.data.length ⟨r5, false⟩ = (e.data, ⟨r6, false⟩) := by rw [h5]; exact takeR_app e.data r6 rfl
  have E7 : takeR 8 ⟨r6, false⟩ = (sumE e, ⟨rest, false⟩) := by rw [h6]; exact takeR_app (sumE e) rest hsum
  obtain ⟨f7, fS, fE⟩ := cand_of E1 E2 E3 E4 E5 E6 E7
  have hc : candE ⟨entB e ++ rest, false⟩ = e := by
    rw [fE, ← htx, txtB_bytB, hp, ← hk, ← hm]
  have hb : bentE ⟨entB e ++ rest, false⟩ = false := by
    unfold bentE
    rw [fS, hc]
    simp
  unfold entR
  rw [f7, hc, hb, if_neg (by simp), if_pos h]
theorem entsR_succ (n : Nat) (s : Rs) (l : List En) : entsR (n + 1) s l = if (entR s l).err = 0 then entsR n (entR s l).st (entR s l).l else entR s l := rfl
theorem entsR_ok (n : Nat) : ∀ (s : Rs) (l : List En), s.ms = false → (entsR n s l).err = 0 → ∃ es, (entsR n s l).l = l ++ es ∧ es.length = n ∧ s.left = es.flatMap entB ++ (entsR n s l).st.left ∧ (entsR n s l).st.ms = false ∧ ∀ i e, es[i]? = some e → refE e (l ++ es.take i) false = 0 := by
  induction n with
  | zero => exact fun s l hs _ => ⟨[], by simp [entsR], rfl, by simp [entsR], hs, fun i e h => by simp at h⟩
  | succ n ih =>
    intro s l hs h
    rw [entsR_succ] at h ⊢
    have hok := entR_ok (s := s) (l := l)
    obtain ⟨r, hr⟩ : ∃ r, entR s l = r := ⟨_, rfl⟩
    rw [hr] at h hok ⊢
    clear hr
    by_cases h0 : r.err = 0
    · rw [if_pos h0] at h ⊢
      obtain ⟨a1, a2, a3, a4, a5⟩ := hok h0
      obtain ⟨es, b1, b2, b3, b4, b5⟩ := ih _ _ a4 h
      refine ⟨candE s :: es, by rw [b1, a1]; simp, by rw [List.length_cons, b2], by rw [a5, b3]; simp, b4, fun i e he => ?_⟩
      cases i with
      | zero =>
        simp only [List.getElem?_cons_zero, Option.some.injEq] at he
        subst he
        rw [List.take_zero, List.append_nil]
        exact a2
      | succ i =>
        have := b5 i e (by simpa using he)
        rw [a1, List.append_assoc] at this
        rw [List.take_succ_cons]
        exact this
    · rw [if_neg h0] at h
      exact absurd h h0
theorem entsR_back : ∀ (es : List En) (l : List En) (rest : List B8), (∀ i e, es[i]? = some e → refE e (l ++ es.take i) false = 0) → (∀ e ∈ es, WrE e ∧ (sumE e).length = 8) → entsR es.length ⟨es.flatMap entB ++ rest, false⟩ l = ⟨⟨rest, false⟩, l ++ es, 0⟩
  | [], l, rest, _, _ => by simp [entsR]
  | e :: es, l, rest, h, hw => by
    have h0 := h 0 e rfl
    rw [List.take_zero, List.append_nil] at h0
    have hb := entR_back h0 (hw e List.mem_cons_self).1 (hw e List.mem_cons_self).2 (es.flatMap entB ++ rest)
    have ih := entsR_back es (l ++ [e]) rest (fun i x hx => by
      have := h (i + 1) x (by simpa using hx)
      rw [List.take_succ_cons] at this
      rw [List.append_assoc]
      exact this) (fun x hx => hw x (List.mem_cons_of_mem _ hx))
    rw [List.length_cons, List.flatMap_cons, List.append_assoc, entsR_succ, hb]
    dsimp only
    rw [if_pos rfl, ih, List.append_assoc]
    rfl
/-- What Decode takes is just what is written. -/
theorem dec_ok {b : List B8} (h : (decB b).2.2 = 0) : (decB b).2.1 = (decB b).1.length ∧ b = arcB (decB b).1.length (decB b).1 ∧ chkE (decB b).1 = ((decB b).1.length, 0) ∧ (decB b).1.length ≤ 40 := by
  unfold decB at h ⊢
  split at h
  · rename_i h1
    rw [if_pos h1]
    split at h
    · rename_i h2
      rw [if_pos h2]
      refine ⟨rfl, ?_⟩
      show b = arcB (arcR ⟨b.drop 4, false⟩).1.length (arcR ⟨b.drop 4, false⟩).1 ∧ chkE (arcR ⟨b.drop 4, false⟩).1 = _ ∧ (arcR ⟨b.drop 4, false⟩).1.length ≤ 40
      unfold arcR at h2 ⊢
      split at h2
      · cases h2
      · rename_i m1
        rw [if_neg m1]
        split at h2
        · cases h2
        · rename_i m2
          rw [if_neg m2]
          split at h2
          · rename_i m3
            rw [if_pos m3]
            split at h2
            · cases h2
            · rename_i m4
              rw [if_neg m4]
              have m1' : (numR 1 ⟨b.drop 4, false⟩).2.ms = false := by cases hq : (numR 1 ⟨b.drop 4, false⟩).2.ms with
                | false => rfl
                | true => exact absurd hq m1
              obtain ⟨_, e1⟩ := numR_ok m1'
              obtain ⟨es, b1, b2, b3, b4, b5⟩ := entsR_ok _ _ _ m1' m3
              have hnil : (entsR (numR 1 ⟨b.drop 4, false⟩).1 (rs1 ⟨b.drop 4, false⟩) []).st.left = [] := List.eq_nil_of_length_eq_zero (by omega)
              have hb : b = arcB es.length es := by
                unfold arcB
                rw [b2]
                have hd : b = b.take 4 ++ b.drop 4 := (List.take_append_drop 4 b).symm
                rw [h1] at hd
                refine hd.trans ?_
                have e1' : b.drop 4 = big 1 (numR 1 ⟨b.drop 4, false⟩).1 ++ (rs1 ⟨b.drop 4, false⟩).left := e1
                have e2 : (rs1 ⟨b.drop 4, false⟩).left = es.flatMap entB := by
                  refine b3.trans ?_
                  show es.flatMap entB ++ (entsR (numR 1 ⟨b.drop 4, false⟩).1 (rs1 ⟨b.drop 4, false⟩) []).st.left = _
                  rw [hnil, List.append_nil]
                rw [e2] at e1'
                show crelB ++ b.drop 4 = crelB ++ big 1 (numR 1 ⟨b.drop 4, false⟩).1 ++ es.flatMap entB
                rw [List.append_assoc, ← e1']
              have hl : (entsR (numR 1 ⟨b.drop 4, false⟩).1 (rs1 ⟨b.drop 4, false⟩) []).l = es := b1.trans (List.nil_append es)
              have h40 : es.length ≤ 40 := by rw [b2]; exact Nat.le_of_not_lt m2
              show b = arcB (entsR (numR 1 ⟨b.drop 4, false⟩).1 (rs1 ⟨b.drop 4, false⟩) []).l.length (entsR (numR 1 ⟨b.drop 4, false⟩).1 (rs1 ⟨b.drop 4, false⟩) []).l ∧ _
              rw [hl]
              refine ⟨hb, ?_, h40⟩
              unfold chkE
              rw [if_neg (Nat.not_lt.2 h40), chk_all es [] (fun j y hy => by rw [List.nil_append]; have := b5 j y hy; rwa [List.nil_append] at this)]
              simp
          · rename_i m3
            exact absurd h2 m3
    · rename_i h2
      exact absurd h h2
  · cases h
theorem dec_back {es : List En} (h : (chkE es).2 = 0) (hw : ∀ e ∈ es, WrE e) (hs : ∀ e ∈ es, (sumE e).length = 8) : decB (arcB es.length es) = (es, es.length, 0) := by
  have h40 : es.length ≤ 40 := by
    rcases Nat.lt_or_ge 40 es.length with h1 | h1
    · unfold chkE at h
      rw [if_pos h1] at h
      cases h
    · exact h1
  obtain ⟨h1, h2, h3⟩ := chkE_spec h40
  have hall : ∀ (i : Nat) e, es[i]? = some e → refE e ([] ++ es.take i) false = 0 := by
    intro i e he
    rw [List.nil_append]
    exact h2 i e (by rw [h3 h]; exact (List.getElem?_eq_some_iff.1 he).1) he
  have hbk := entsR_back es [] [] hall (fun e he => ⟨hw e he, hs e he⟩)
  rw [List.append_nil, List.nil_append] at hbk
  have hr : arcR ⟨big 1 es.length ++ es.flatMap entB, false⟩ = (es, 0) := by
    have e1 := numR_app (k := 1) (n := es.length) (by omega) (es.flatMap entB)
    unfold arcR rs1
    rw [e1]
    show (if false = true then _ else if 40 < es.length then _ else if (entsR es.length ⟨es.flatMap entB, false⟩ []).err = 0 then (if 0 < (entsR es.length ⟨es.flatMap entB, false⟩ []).st.left.length then ((entsR es.length ⟨es.flatMap entB, false⟩ []).l, 3) else ((entsR es.length ⟨es.flatMap entB, false⟩ []).l, 0)) else ((entsR es.length ⟨es.flatMap entB, false⟩ []).l, (entsR es.length ⟨es.flatMap entB, false⟩ []).err)) = _
    rw [if_neg (by simp), if_neg (by omega), hbk]
    rfl
  unfold decB
  have ht : (arcB es.length es).take 4 = crelB := by unfold arcB; rw [List.append_assoc]; rfl
  have hd : (arcB es.length es).drop 4 = big 1 es.length ++ es.flatMap entB := by unfold arcB; rw [List.append_assoc]; rfl
  rw [if_pos ht, hd, hr]
  rfl
end Go.Proofs.YtdnaiiagblcohaaGreatDoor
end

/-
  Reading: numbers. Conditions: what is left lies in memory, and not in the reader.
-/

section
set_option linter.unusedSimpArgs false
set_option linter.unusedVariables false
set_option maxRecDepth 100000
namespace Go.Proofs.YtdnaiiagblcohaaGreatDoor
open Go.RowKit

theorem List_take_snoc {α : Type} {ws : List α} {i : Nat} {p : α} (h : ws[i]? = some p) : ws.take (i + 1) = ws.take i ++ [p] := by
  obtain ⟨hi, rfl⟩ := List.getElem?_eq_some_iff.1 h
  exact List.take_succ_eq_append_getElem hi
set_option maxHeartbeats 1000000 in
theorem snum_din (w : World) (A : Option Addr) (m c : Nat) (xs : List B8) (hx : DIn w A m c xs) (hm : m ≤ 8) :
    Calls Tryz.prog 124 #[.slice A m c] w fun e w' => e = .returned (.int .u64 (fromB xs)) ∧ w' = w := by
  have hlen := hx.len
  have H := Lib.hid (And.intro hx hlen)
  clear hx hlen
  go_enter Tryz.func124, Tryz.ntmps124
  go_wp2_with fail
  go_loop [3, 8] (fun v iv => ∃ i : Nat, i ≤ m ∧ iv = .int .i64 i ∧ v = .int .u64 (fromB (xs.take i))) (fun _ iv => m - (intOf iv).toNat)
  case atStart => exact ⟨0, Nat.zero_le _, rfl, rfl⟩
  case round =>
    obtain ⟨i, hi, rfl, rfl⟩ := hrel
    by_cases hlt : i < m
    · obtain ⟨g, o, rfl, _, hc⟩ := H.out.1.cells (by omega)
      have hxi : i < xs.length := by have := H.out.2; omega
      have hci := hc i (.int .u8 (nb xs[i])) (by rw [Vb_get, List.getElem?_eq_getElem hxi]; rfl)
      clear hc
      have hb := nb_bound xs[i]
      have hlt2 := fromB_lt (xs.take i)
      obtain ⟨a, ha⟩ : ∃ a, fromB (xs.take i) = a := ⟨_, rfl⟩
      rw [ha] at hlt2 ⊢
      have ha56 : a < 2 ^ 56 := by
        have : (xs.take i).length ≤ 7 := by rw [List.length_take]; omega
        have : 256 ^ (xs.take i).length ≤ 256 ^ 7 := Nat.pow_le_pow_right (by omega) this
        omega
      go_wp2_with fail
      go_round
      case rel =>
        refine ⟨i + 1, by omega, by go_num, ?_⟩
        rw [List_take_snoc (List.getElem?_eq_getElem hxi), fromB_snoc, ha]
        unfold nb
        rw [or_u64n a _ ha56 xs[i].isLt]
      case measure => simp [intOf]; omega
    · obtain rfl : i = m := by omega
      rw [List.take_of_length_le (by have := H.out.2; omega)]
      go_wp2_with fail
      go_ret
      exact ⟨rfl, rfl⟩
/-- Where reading stands, in memory; what is left lies below M. -/
def RdAt (M : Nat) (w : World) (g : Nat) (s : Rs) (lv : Value) : Prop := ∃ L n c, Blk w g 101 [.slice L n c, .bool s.ms, lv] ∧ LIn (fun b => b < M) w L n c s.left
theorem RdAt.below {M : Nat} {w w' : World} {g : Nat} {s : Rs} {lv : Value} (h : RdAt M w g s lv) (hb : Below w.heap.size w w') : RdAt M w' g s lv := by
  obtain ⟨L, n, c, h1, h2⟩ := h
  exact ⟨L, n, c, h1.below hb h1.lt, h2.din.below hb, h2.far⟩
theorem RdAt.lt {M : Nat} {w : World} {g : Nat} {s : Rs} {lv : Value} (h : RdAt M w g s lv) : g < w.heap.size := by
  obtain ⟨L, n, c, h1, h2⟩ := h
  exact h1.lt
theorem DIn.only {w w' : World} {L : Option Addr} {n c : Nat} {bs : List B8} {S : List Nat} (h : DIn w L n c bs) (ho : Only S w w') (hf : ∀ a, L = some a → a.block ∉ S) : DIn w' L n c bs := by
  refine ⟨h.len, h.cap, h.big, h.nil, fun hn => ?_⟩
  obtain ⟨b, o, hA, hb, hc⟩ := h.cells hn
  exact ⟨b, o, hA, Nat.lt_of_lt_of_le hb ho.size, fun j u hu => only_cell ho (hc j u hu) (hf _ hA)⟩
/-- Other memory turns. -/
theorem RdAt.only {M : Nat} {w w' : World} {g : Nat} {s : Rs} {lv : Value} {S : List Nat} (h : RdAt M w g s lv) (ho : Only S w w') (hg : g ∉ S) (hS : ∀ k ∈ S, M ≤ k) : RdAt M w' g s lv := by
  obtain ⟨L, n, c, h1, h2⟩ := h
  exact ⟨L, n, c, h1.only ho hg, h2.din.only ho (fun a ha hm => by have := hS _ hm; have := h2.far a ha; omega), h2.far⟩
/-- What was taken lies below M. -/
def TkV (M : Nat) (w : World) (xs : List B8) (u : Value) : Prop := ∃ A c, u = .slice A xs.length c ∧ DIn w A xs.length c xs ∧ ∀ a, A = some a → a.block < M
theorem TkV.only {M : Nat} {w w' : World} {xs : List B8} {u : Value} {S : List Nat} (h : TkV M w xs u) (ho : Only S w w') (hS : ∀ k ∈ S, M ≤ k) : TkV M w' xs u := by
  obtain ⟨A, c, rfl, h1, h2⟩ := h
  exact ⟨A, c, rfl, h1.only ho (fun a ha hm => by have := hS _ hm; have := h2 a ha; omega), h2⟩
theorem take12_at (M : Nat) (w : World) (g k : Nat) (hg : M ≤ g) (s : Rs) (lv : Value) (h : RdAt M w g s lv) (hk : k ≤ 9223372036854775807) :
    Calls Tryz.prog 125 #[.pointer (some ⟨g, 0, none⟩), .int .i64 k] w fun e w' => Only [g] w w' ∧ (∃ u, e = .returned u ∧ TkV M w' (takeR k s).1 u) ∧ RdAt M w' g (takeR k s).2 lv := by
  obtain ⟨L, n, c, h1, h2⟩ := h
  refine (take_any (fun b => b < M) w g k (by omega) L n c s.left s.ms lv h1 h2 hk).mono ?_
  rintro e w' ⟨hO, h⟩
  have hl := h2.din.len
  have hf : ∀ a, L = some a → a.block ∉ [g] := fun a ha hm => by have := h2.far a ha; simp at hm; omega
  refine ⟨hO, ?_⟩
  rcases h with ⟨hlt, rfl, hB⟩ | ⟨hle, rfl, L', hB, hL⟩
  · have e1 : takeR k s = ([], ⟨s.left, true⟩) := by unfold takeR; rw [if_pos (by omega)]
    rw [e1]
    exact ⟨⟨_, rfl, none, 0, rfl, DIn.none _, fun a ha => by cases ha⟩, L, n, c, hB, h2.din.only hO hf, h2.far⟩
  · have e1 : takeR k s = (s.left.take k, ⟨s.left.drop k, s.ms⟩) := by unfold takeR; rw [if_neg (by omega)]
    rw [e1]
    have hlt : (s.left.take k).length = k := by rw [List.length_take]; omega
    have hcap := h2.din.cap
    exact ⟨⟨_, rfl, L, c, by rw [hlt], by rw [hlt]; exact (h2.din.only hO hf).take (by omega) (by omega) (Nat.le_refl _), h2.far⟩, L', n - k, c - k, hB, hL⟩
theorem take_len {k : Nat} {s : Rs} : (takeR k s).1.length ≤ k := by
  unfold takeR
  split
  · simp
  · rw [List.length_take]; omega
set_option maxHeartbeats 1000000 in
theorem number12_any (M : Nat) (w : World) (g k : Nat) (hg : M ≤ g) (s : Rs) (lv : Value) (h : RdAt M w g s lv) (hk : k ≤ 2) :
    Calls Tryz.prog 81 #[.pointer (some ⟨g, 0, none⟩), .int .i64 k] w fun e w' => Only [g] w w' ∧ e = .returned (.int .i64 ((numR k s).1 : Nat)) ∧ RdAt M w' g (numR k s).2 lv := by
  have HT := Lib.hid (take12_at M w g k hg s lv h (by omega))
  have hl := take_len (k := k) (s := s)
  have hf := fromB_lt (takeR k s).1
  have hq : 256 ^ (takeR k s).1.length ≤ 256 ^ 2 := Nat.pow_le_pow_right (by omega) (by omega)
  obtain ⟨z, hz⟩ : ∃ z, fromB (takeR k s).1 = z := ⟨_, rfl⟩
  have hzb : z < 65536 := by omega
  have HL := Lib.hid (And.intro hl hz)
  clear h hl hf hq hz
  go_enter Tryz.func81, Tryz.ntmps81
  go_wp2_with fail
  refine HT.out.mono ?_
  rintro e w1 ⟨hO, ⟨u, rfl, A, c, rfl, hd, hA⟩, hR⟩
  have H1 := Lib.hid (And.intro hO (And.intro hd hR))
  clear hO hd hA hR
  go_wp2_with fail
  refine (snum_din w1 A _ c (takeR k s).1 H1.out.2.1 (by have := HL.out.1; omega)).mono ?_
  rintro e w2 ⟨rfl, rfl⟩
  rw [HL.out.2]
  go_wp2_with fail
  go_ret
  refine ⟨H1.out.1, ?_, H1.out.2.2⟩
  show Ending.returned (Value.int .i64 (z : Int)) = Ending.returned (Value.int .i64 ((fromB (takeR k s).1 : Nat) : Int))
  rw [HL.out.2]
end Go.Proofs.YtdnaiiagblcohaaGreatDoor
end
